package op

import (
	"math"
	"slices"
	"testing"

	"hammock/api"
	"hammock/fault"
)

const (
	top = math.MaxInt
	low = math.MinInt
)

// outside are kinds that are none of the table.
var outside = []int{low, math.MinInt32, -256, -7, -1, 0, 8, 9, 11, 255, 256, 257, 1<<32 + 1, 1<<32 + 4, top}

// kinds are all kinds of the table.
var kinds = []int{api.OpClass, api.OpNode, api.OpDrop, api.OpPod, api.OpDelete, api.OpTick, api.OpCycle}

// full returns an operation of a kind whose fields are all set.
func full(kind int) api.Op {
	return api.Op{Kind: kind, ID: 3, Class: 4, N: 5, Flag: true, Amounts: []int64{6, 7}}
}

// spoiled returns an operation whose fields that do not matter have values that are wrong for each kind.
func spoiled(o api.Op) api.Op {
	s := api.Op{Kind: o.Kind, ID: -1, Class: -1, N: top, Flag: true, Amounts: []int64{-1, -1, -1}}
	switch o.Kind {
	case api.OpClass:
		s.ID, s.N, s.Flag = o.ID, o.N, o.Flag
	case api.OpNode:
		s.ID, s.Amounts = o.ID, o.Amounts
	case api.OpDrop, api.OpDelete:
		s.ID = o.ID
	case api.OpPod:
		s.ID, s.Class, s.N, s.Amounts = o.ID, o.Class, o.N, o.Amounts
	case api.OpTick:
		s.N = o.N
	}
	return s
}

// equal reports whether all fields of two operations are the same.
func equal(a, b api.Op) bool {
	return a.Kind == b.Kind && a.ID == b.ID && a.Class == b.Class && a.N == b.N && a.Flag == b.Flag && slices.Equal(a.Amounts, b.Amounts)
}

// good are operations that are well made for the dimension 2, with numbers at their bounds.
func good() []api.Op {
	return []api.Op{
		Class(0, 0, false),
		Class(api.MaxID, api.MaxPriority, true),
		Class(1, -api.MaxPriority, true),
		Node(0, 0, 0),
		Node(api.MaxID, api.MaxAmount, api.MaxAmount),
		Node(5, 0, api.MaxAmount),
		Drop(0),
		Drop(api.MaxID),
		Pod(1, 2, 5, 3, 4),
		Pod(0, 0, 0, 0, 0),
		Pod(api.MaxID, api.MaxID, api.MaxGrace, api.MaxAmount, api.MaxAmount),
		Delete(0),
		Delete(api.MaxID),
		Tick(0),
		Tick(api.MaxGrace),
		Cycle(),
	}
}

// flaw is an operation that is not well made for a dimension, with its error.
type flaw struct {
	o    api.Op
	dims int
	code api.Code
	at   int
}

// flaws are operations that are not well made.
func flaws() []flaw {
	const id, priority, grace, amount = api.MaxID, api.MaxPriority, api.MaxGrace, api.MaxAmount
	return []flaw{
		{Class(-1, 0, true), 2, api.BadID, 0},
		{Class(id+1, 0, false), 2, api.BadID, 0},
		{Class(low, 0, false), 2, api.BadID, 0},
		{Class(top, 0, false), 2, api.BadID, 0},
		{Class(0, priority+1, false), 2, api.BadNumber, 0},
		{Class(0, -priority-1, true), 2, api.BadNumber, 0},
		{Class(0, low, false), 2, api.BadNumber, 0},
		{Class(0, top, false), 2, api.BadNumber, 0},
		{Class(-1, priority+1, false), 2, api.BadID, 0},
		{Node(-1, 1, 1), 2, api.BadID, 0},
		{Node(id+1, 1, 1), 2, api.BadID, 0},
		{Node(0, -1, 1), 2, api.BadAmount, 0},
		{Node(0, 1, -1), 2, api.BadAmount, 1},
		{Node(0, 1, amount+1), 2, api.BadAmount, 1},
		{Node(0, math.MinInt64, math.MaxInt64), 2, api.BadAmount, 0},
		{Node(0, math.MaxInt64, math.MinInt64), 2, api.BadAmount, 0},
		{Node(0, 1), 2, api.BadAmount, 1},
		{Node(0), 2, api.BadAmount, 0},
		{Node(0, 1, 1, 1), 2, api.BadAmount, 2},
		{Node(0, 1, 1, -1), 2, api.BadAmount, 2},
		{Node(0, 1, 1), 0, api.BadAmount, 0},
		{Node(0), -1, api.BadAmount, 0},
		{Node(0, 1, 1), -1, api.BadAmount, 0},
		{Node(0, 1, 1), low, api.BadAmount, 0},
		{Node(0, 1, 1), top, api.BadAmount, 2},
		{Node(-1, -1, 1), 2, api.BadID, 0},
		{Drop(-1), 2, api.BadID, 0},
		{Drop(id + 1), 2, api.BadID, 0},
		{Drop(low), 2, api.BadID, 0},
		{Drop(top), 2, api.BadID, 0},
		{Pod(1, 2, 5, 3, 4), 3, api.BadAmount, 2},
		{Pod(-1, 0, 0, 1, 1), 2, api.BadID, 0},
		{Pod(id+1, 0, 0, 1, 1), 2, api.BadID, 0},
		{Pod(0, -1, 0, 1, 1), 2, api.BadID, 1},
		{Pod(0, id+1, 0, 1, 1), 2, api.BadID, 1},
		{Pod(0, low, 0, 1, 1), 2, api.BadID, 1},
		{Pod(0, top, 0, 1, 1), 2, api.BadID, 1},
		{Pod(-1, -1, -1, -1, 1), 2, api.BadID, 0},
		{Pod(0, -1, -1, -1, 1), 2, api.BadID, 1},
		{Pod(0, 0, -1, 1, -1), 2, api.BadNumber, 0},
		{Pod(0, 0, -1, 1, 1), 2, api.BadNumber, 0},
		{Pod(0, 0, grace+1, 1, 1), 2, api.BadNumber, 0},
		{Pod(0, 0, low, 1, 1), 2, api.BadNumber, 0},
		{Pod(0, 0, top, 1, 1), 2, api.BadNumber, 0},
		{Pod(0, 0, 0, 1, amount+1), 2, api.BadAmount, 1},
		{Pod(0, 0, 0, 1, -1), 2, api.BadAmount, 1},
		{Pod(0, 0, 0, 1, -1), 1, api.BadAmount, 1},
		{Pod(0, 0, 0, 1), 2, api.BadAmount, 1},
		{Pod(0, 0, 0), 1, api.BadAmount, 0},
		{Pod(0, 0, 0), -1, api.BadAmount, 0},
		{Pod(0, 0, 0, 1), -1, api.BadAmount, 0},
		{Delete(-1), 2, api.BadID, 0},
		{Delete(id + 1), 2, api.BadID, 0},
		{Tick(-1), 2, api.BadNumber, 0},
		{Tick(grace + 1), 2, api.BadNumber, 0},
		{Tick(low), 2, api.BadNumber, 0},
		{Tick(top), 2, api.BadNumber, 0},
	}
}

// checkFlaw compares the result of Check with an error that is wrapped with the kind.
func checkFlaw(t *testing.T, o api.Op, x flaw) {
	t.Helper()
	err := Check(o, x.dims)
	code, _ := fault.Code(err)
	at, hasAt := fault.At(err)
	place, hasPlace := fault.Place(err)
	if code != x.code || at != x.at || !hasAt || place != o.Kind || !hasPlace {
		t.Errorf("Check(%v, %d) is %v: code %d, at %d %v, place %d %v; not code %d, at %d", o, x.dims, err, code, at, hasAt, place, hasPlace, x.code, x.at)
		return
	}
	if want := fault.In(o.Kind, fault.New(x.code, x.at)); err.Error() != want.Error() {
		t.Errorf("Check(%v, %d) is %q, not %q", o, x.dims, err, want)
	}
}

// P3.1
func TestCheckWellMade(t *testing.T) {
	for _, o := range good() {
		if err := Check(o, 2); err != nil {
			t.Errorf("Check(%v, 2) is %v", o, err)
		}
		if err := Check(spoiled(o), 2); err != nil {
			t.Errorf("Check(%v, 2) is %v", spoiled(o), err)
		}
	}
	for _, x := range []struct {
		o    api.Op
		dims int
	}{
		{Node(1), 0},
		{Pod(1, 1, 1), 0},
		{Node(1, 2), 1},
		{Pod(1, 1, 1, 2), 1},
		{Node(1, 1, 2, 3, 4, 5, 6, 7, 8), api.MaxDims},
		{Pod(1, 1, 1, 1, 2, 3, 4, 5, 6, 7, 8), api.MaxDims},
		// The definition has no bound for the dimension.
		{Node(1, make([]int64, 20)...), 20},
	} {
		if err := Check(x.o, x.dims); err != nil {
			t.Errorf("Check(%v, %d) is %v", x.o, x.dims, err)
		}
	}
}

// P3.1: a dimension is nothing to operations without amounts.
func TestCheckAnyDimension(t *testing.T) {
	for _, dims := range []int{low, -1, 0, 1, api.MaxDims, api.MaxDims + 1, top} {
		for _, o := range good() {
			if err := Check(o, dims); err != nil && o.Kind != api.OpNode && o.Kind != api.OpPod {
				t.Errorf("Check(%v, %d) is %v", o, dims, err)
			}
		}
	}
}

// P3.1
func TestCheckFlaws(t *testing.T) {
	for _, x := range flaws() {
		checkFlaw(t, x.o, x)
		checkFlaw(t, spoiled(x.o), x)
	}
}

// P3.1: the error of a kind comes before all others, and is not wrapped.
func TestCheckKind(t *testing.T) {
	for _, kind := range outside {
		for _, o := range []api.Op{{Kind: kind}, full(kind), spoiled(api.Op{Kind: kind})} {
			got, ok := Check(o, 2).(api.Fault)
			if want := (api.Fault{Code: api.BadKind}); !ok || got != want {
				t.Errorf("Check(%v, 2) is %v %v", o, got, ok)
			}
		}
	}
	for _, kind := range kinds {
		if code, _ := fault.Code(Check(full(kind), 2)); code == api.BadKind {
			t.Error(kind, "is a kind")
		}
	}
}

// P3.2
func TestPlain(t *testing.T) {
	for _, x := range []api.Op{
		{Kind: api.OpClass, ID: 3, N: 5, Flag: true},
		{Kind: api.OpNode, ID: 3, Amounts: []int64{6, 7}},
		{Kind: api.OpDrop, ID: 3},
		{Kind: api.OpPod, ID: 3, Class: 4, N: 5, Amounts: []int64{6, 7}},
		{Kind: api.OpDelete, ID: 3},
		{Kind: api.OpTick, N: 5},
		{Kind: api.OpCycle},
	} {
		if got := Plain(full(x.Kind)); !equal(got, x) {
			t.Errorf("Plain(%v) is %v, not %v", full(x.Kind), got, x)
		}
		if got := Plain(x); !equal(got, x) {
			t.Errorf("Plain(%v) is %v", x, got)
		}
	}
	for _, kind := range outside {
		if got := Plain(full(kind)); !equal(got, api.Op{Kind: kind}) {
			t.Errorf("Plain(%v) is %v", full(kind), got)
		}
	}
}

// P3.2: fields are kept as they are, whether they are in their ranges or not.
func TestPlainKeepsWrongFields(t *testing.T) {
	for _, n := range []int{low, -1, api.MaxID + 1, top} {
		for _, o := range []api.Op{Class(n, n, true), Class(n, n, false), Node(n, int64(n), 1, -1), Node(n), Drop(n), Pod(n, n, n, int64(n)), Pod(n, n, n), Delete(n), Tick(n), Cycle()} {
			for _, p := range []api.Op{Plain(o), Plain(spoiled(o))} {
				if !equal(p, o) {
					t.Errorf("Plain is %v, not %v", p, o)
				}
			}
		}
	}
}

// changes are operations that differ from full(kind) in one field each; each comes with the kinds in which this field matters.
func changes(kind int) []struct {
	o     api.Op
	kinds []int
} {
	id, class, n, flag, amount, more, less := full(kind), full(kind), full(kind), full(kind), full(kind), full(kind), full(kind)
	id.ID++
	class.Class++
	n.N++
	flag.Flag = false
	amount.Amounts[1]++
	more.Amounts = append(more.Amounts, 0)
	less.Amounts = nil
	vectors := []int{api.OpNode, api.OpPod}
	return []struct {
		o     api.Op
		kinds []int
	}{
		{id, []int{api.OpClass, api.OpNode, api.OpDrop, api.OpPod, api.OpDelete}},
		{class, []int{api.OpPod}},
		{n, []int{api.OpClass, api.OpPod, api.OpTick}},
		{flag, []int{api.OpClass}},
		{amount, vectors},
		{more, vectors},
		{less, vectors},
	}
}

// P3.2
func TestSame(t *testing.T) {
	for _, kind := range slices.Concat(kinds, outside) {
		o := full(kind)
		if !Same(o, full(kind)) || !Same(o, Plain(o)) || !Same(Plain(o), o) {
			t.Error(kind, "differs from itself")
		}
		for i, x := range changes(kind) {
			want := !slices.Contains(x.kinds, kind)
			if Same(o, x.o) != want || Same(x.o, o) != want {
				t.Errorf("Same(%v, %v) is %v: %d", o, x.o, !want, i)
			}
		}
		for _, other := range slices.Concat(kinds, outside) {
			if kind != other && (Same(o, full(other)) || Same(api.Op{Kind: kind}, api.Op{Kind: other})) {
				t.Error(kind, "is the same as", other)
			}
		}
	}
	if !Same(api.Op{Kind: api.OpNode}, api.Op{Kind: api.OpNode, Amounts: []int64{}}) {
		t.Error("a nil vector is an empty one")
	}
}

// P3.2: all fields are copied, whether they matter or not.
func TestClone(t *testing.T) {
	for _, kind := range slices.Concat(kinds, outside) {
		for _, o := range []api.Op{full(kind), {Kind: kind}, {Kind: kind, Amounts: []int64{}}, spoiled(api.Op{Kind: kind})} {
			if got := Clone(o); !equal(got, o) {
				t.Errorf("Clone(%v) is %v", o, got)
			}
		}
	}
}

// P3.2, P3.3 and rule 5 of the document: no memory is shared, and no argument is changed.
func TestNoSharedMemory(t *testing.T) {
	for name, f := range map[string]func(v []int64) api.Op{
		"Plain of a node":  func(v []int64) api.Op { return Plain(api.Op{Kind: api.OpNode, Amounts: v}) },
		"Plain of a pod":   func(v []int64) api.Op { return Plain(api.Op{Kind: api.OpPod, Amounts: v}) },
		"Clone of a node":  func(v []int64) api.Op { return Clone(api.Op{Kind: api.OpNode, Amounts: v}) },
		"Clone of a tick":  func(v []int64) api.Op { return Clone(api.Op{Kind: api.OpTick, Amounts: v}) },
		"Clone of no kind": func(v []int64) api.Op { return Clone(api.Op{Amounts: v}) },
		"Node":             func(v []int64) api.Op { return Node(1, v...) },
		"Pod":              func(v []int64) api.Op { return Pod(1, 2, 3, v...) },
	} {
		for n := range 4 {
			back := []int64{1, 2, 8, 9}
			got := f(back[:n])
			back[0] = 5
			if n > 0 && got.Amounts[0] != 1 {
				t.Error(name, "shares its argument")
			}
			back[0] = 1
			got.Amounts = append(got.Amounts, -1)
			for i := range got.Amounts {
				got.Amounts[i] = -1
			}
			if len(got.Amounts) != n+1 || !slices.Equal(back, []int64{1, 2, 8, 9}) {
				t.Error(name, "of", n, "amounts:", got.Amounts, back)
			}
		}
	}
}

// Rule 5 of the document, for P3.1 and P3.2: Check and Same change nothing.
func TestArgumentsStay(t *testing.T) {
	back := []int64{1, -2, 8, 9}
	o := api.Op{Kind: api.OpPod, ID: 1, Class: 2, N: 3, Flag: true, Amounts: back[:2]}
	Check(o, 2)
	Same(o, o)
	Plain(o)
	Clone(o)
	if !equal(o, api.Op{Kind: api.OpPod, ID: 1, Class: 2, N: 3, Flag: true, Amounts: []int64{1, -2}}) || !slices.Equal(back, []int64{1, -2, 8, 9}) {
		t.Error(o, back)
	}
}

// P3.3
func TestMakers(t *testing.T) {
	for _, x := range []struct{ got, want api.Op }{
		{Class(1, -2, true), api.Op{Kind: 1, ID: 1, N: -2, Flag: true}},
		{Class(1, 2, false), api.Op{Kind: 1, ID: 1, N: 2}},
		{Node(1, 5, 6), api.Op{Kind: 2, ID: 1, Amounts: []int64{5, 6}}},
		{Node(1), api.Op{Kind: 2, ID: 1}},
		{Drop(4), api.Op{Kind: 3, ID: 4}},
		{Pod(1, 2, 5, 3, 4), api.Op{Kind: 4, ID: 1, Class: 2, N: 5, Amounts: []int64{3, 4}}},
		{Pod(1, 2, 5), api.Op{Kind: 4, ID: 1, Class: 2, N: 5}},
		{Delete(4), api.Op{Kind: 5, ID: 4}},
		{Tick(4), api.Op{Kind: 6, N: 4}},
		{Cycle(), api.Op{Kind: 7}},
		// They do not check the fields.
		{Class(low, top, true), api.Op{Kind: 1, ID: low, N: top, Flag: true}},
		{Node(-1, math.MinInt64, -1, math.MaxInt64), api.Op{Kind: 2, ID: -1, Amounts: []int64{math.MinInt64, -1, math.MaxInt64}}},
		{Drop(low), api.Op{Kind: 3, ID: low}},
		{Pod(top, low, -1, -1), api.Op{Kind: 4, ID: top, Class: low, N: -1, Amounts: []int64{-1}}},
		{Delete(top), api.Op{Kind: 5, ID: top}},
		{Tick(-1), api.Op{Kind: 6, N: -1}},
	} {
		if !equal(x.got, x.want) {
			t.Errorf("%v is not %v", x.got, x.want)
		}
	}
}

// P3.4
func TestCheckOfPlain(t *testing.T) {
	l := good()
	for _, x := range flaws() {
		l = append(l, x.o)
	}
	for _, kind := range slices.Concat(kinds, outside) {
		l = append(l, api.Op{Kind: kind}, full(kind))
	}
	for _, o := range l {
		for _, dims := range []int{low, -1, 0, 1, 2, 3, api.MaxDims, top} {
			for _, x := range []api.Op{o, spoiled(o)} {
				a, b := Check(x, dims), Check(Plain(x), dims)
				if (a == nil) != (b == nil) || a != nil && !alike(a, b) {
					t.Errorf("Check(%v, %d) is %v, and %v for its Plain", x, dims, a, b)
				}
			}
		}
	}
}

// alike reports whether two errors have the same text, code, index and place.
func alike(a, b error) bool {
	codeA, _ := fault.Code(a)
	codeB, _ := fault.Code(b)
	atA, hasA := fault.At(a)
	atB, hasB := fault.At(b)
	placeA, inA := fault.Place(a)
	placeB, inB := fault.Place(b)
	return a.Error() == b.Error() && codeA == codeB && atA == atB && hasA == hasB && placeA == placeB && inA == inB
}
