package class

import (
	"errors"
	"math"
	"slices"
	"testing"

	"hammock/api"
	"hammock/op"
)

// outside are IDs that the stores of most tests do not have.
var outside = []int{-2, 9, 10, 255, 256, 1 << 31, 1<<32 + 1, math.MinInt + 1, math.MaxInt - 1}

// of returns a store for up to size classes that has classes, which must have different IDs.
func of(t *testing.T, size int, classes ...api.Class) *Store {
	t.Helper()
	s := New(size)
	for _, c := range classes {
		if err := s.Add(c); err != nil {
			t.Fatal(c, err)
		}
	}
	return s
}

// sorted returns classes in ascending order of their IDs.
func sorted(classes []api.Class) []api.Class {
	l := slices.Clone(classes)
	for i := range l {
		for j := i; j > 0 && l[j].ID < l[j-1].ID; j-- {
			l[j], l[j-1] = l[j-1], l[j]
		}
	}
	return l
}

// highest returns the class that Highest must find among classes, in whatever order they are.
func highest(classes []api.Class) (best api.Class, ok bool) {
	for _, c := range classes {
		if !ok || c.Priority > best.Priority || c.Priority == best.Priority && c.ID < best.ID {
			best, ok = c, true
		}
	}
	return best, ok
}

// holds checks that a store has exactly these classes, by every method that does not change it.
func holds(t *testing.T, s *Store, want ...api.Class) {
	t.Helper()
	for range 2 {
		if all := s.All(); !slices.Equal(all, sorted(want)) {
			t.Error("all:", all, "want", sorted(want))
		}
		best, is := highest(want)
		if got, ok := s.Highest(); got != best || ok != is {
			t.Error("highest:", got, ok, "want", best, is)
		}
		for _, c := range want {
			if got, ok := s.Get(c.ID); !ok || got != c {
				t.Error("class", c.ID, "is", got, ok, "want", c)
			}
		}
		for _, id := range outside {
			if !slices.ContainsFunc(want, func(c api.Class) bool { return c.ID == id }) {
				lacks(t, s, id)
			}
		}
	}
}

// lacks checks that a store has no class with an ID.
func lacks(t *testing.T, s *Store, id int) {
	t.Helper()
	if got, ok := s.Get(id); ok || got != (api.Class{}) {
		t.Error("class", id, "is", got, ok)
	}
	if p, err := s.Pod(op.Pod(1, id, 2, 3), 4); !isZero(p) || err != (api.Fault{Code: api.Unknown, At: 1}) {
		t.Error("the pod of the class", id, "is", p, err)
	}
}

// same reports whether two pods are the same.
func same(a, b api.Pod) bool {
	request := slices.Equal(a.Request, b.Request)
	return request && a.ID == b.ID && a.Priority == b.Priority && a.Preempts == b.Preempts && a.Grace == b.Grace &&
		a.Arrival == b.Arrival && a.Phase == b.Phase && a.Node == b.Node && a.Deadline == b.Deadline
}

// isZero reports whether a pod is a zero Pod.
func isZero(p api.Pod) bool { return same(p, api.Pod{}) }

// lists are lists of classes with different IDs.
func lists() [][]api.Class {
	return [][]api.Class{
		nil,
		{{ID: 4, Priority: 1, Preempts: true}},
		{{}},
		{{ID: -1, Priority: -1}},
		// The greatest priority may have any ID, and be negative or zero.
		{{ID: 1, Priority: 5}, {ID: 2, Priority: 9, Preempts: true}, {ID: 3, Priority: 7}},
		{{ID: 1, Priority: 9}, {ID: 2, Priority: 5, Preempts: true}, {ID: 3, Priority: 7}},
		{{ID: 3, Priority: -4}, {ID: 1, Priority: -5}, {ID: 2, Priority: -6}},
		{{ID: 3, Priority: -4}, {ID: 1, Priority: 0}, {ID: 2, Priority: -6}},
		// Several classes with it, which do not follow each other, with and without preemption.
		{{ID: 7, Priority: 3, Preempts: true}, {ID: 5, Priority: 3}, {ID: 6, Priority: 1}, {ID: 8, Priority: 3}},
		{{ID: 0, Priority: 0}, {ID: -3, Priority: 0}, {ID: 3, Priority: 0, Preempts: true}},
		{{ID: 1, Priority: 2}, {ID: 2, Priority: 8}, {ID: 4, Priority: 8, Preempts: true}, {ID: 3, Priority: 2}},
		// Fields beyond the limits.
		{{ID: math.MaxInt, Priority: math.MinInt}, {ID: math.MinInt, Priority: math.MaxInt}, {ID: 0, Priority: 0}},
		{{ID: math.MinInt, Priority: math.MinInt}, {ID: math.MaxInt, Priority: math.MinInt}},
		{{ID: math.MaxInt, Priority: math.MaxInt}, {ID: math.MinInt, Priority: math.MaxInt, Preempts: true}},
		{{ID: api.MaxID, Priority: api.MaxPriority}, {ID: 1 << 32, Priority: -api.MaxPriority}, {ID: 1<<32 + 2, Priority: 1 << 33}},
		{{ID: 7, Priority: 1}, {ID: 6, Priority: 2}, {ID: 5, Priority: 3}, {ID: 4, Priority: 4}, {ID: 3, Priority: 5}},
	}
}

// P11.1: a new store is empty, whatever its size is.
func TestNewIsEmpty(t *testing.T) {
	for _, size := range []int{0, 1, 2, api.MaxClasses, 1 << 40, math.MaxInt, -1, -2, math.MinInt} {
		s := New(size)
		if s == nil {
			t.Fatal("no store for", size)
		}
		holds(t, s)
		lacks(t, s, 0)
	}
}

// P11.1: a store has as many classes as its size, and no more; a negative size is that of a table, 0.
func TestSizes(t *testing.T) {
	for size, want := range map[int]int{math.MinInt: 0, -7: 0, -1: 0, 0: 0, 1: 1, 2: 2, 3: 3, api.MaxClasses: api.MaxClasses} {
		s := New(size)
		var all []api.Class
		for id := range want {
			c := api.Class{ID: id, Priority: -id, Preempts: id%2 == 0}
			if err := s.Add(c); err != nil {
				t.Error(size, id, err)
			}
			all = append(all, c)
		}
		for _, id := range []int{want, -1, 1000} {
			if err := s.Add(api.Class{ID: id, Priority: 1}); err != (api.Fault{Code: api.Full}) {
				t.Error(size, id, err)
			}
			holds(t, s, all...)
		}
	}
}

// P11.1: stores are apart.
func TestStoresAreApart(t *testing.T) {
	a, b := New(1), New(2)
	a.Add(api.Class{ID: 1, Priority: 5})
	holds(t, b)
	if err := b.Add(api.Class{ID: 1, Priority: 6}); err != nil {
		t.Error(err)
	}
	b.Add(api.Class{ID: 2, Priority: 7})
	holds(t, a, api.Class{ID: 1, Priority: 5})
}

// P11.1: what is added, and what is not.
func TestAdd(t *testing.T) {
	first, least, second := api.Class{ID: 5, Priority: 9, Preempts: true}, api.Class{ID: -1, Priority: 9, Preempts: true}, api.Class{}
	s := New(3)
	for i, x := range []struct {
		c    api.Class
		code api.Code
		want []api.Class
	}{
		{first, 0, []api.Class{first}},
		// An ID that is there, with the same fields or other ones.
		{first, api.Duplicate, []api.Class{first}},
		{api.Class{ID: 5}, api.Duplicate, []api.Class{first}},
		{api.Class{ID: 5, Priority: 10, Preempts: true}, api.Duplicate, []api.Class{first}},
		{api.Class{ID: 5, Priority: 9}, api.Duplicate, []api.Class{first}},
		// Another ID with the same fields, and a zero class, which Get returns for an ID that is not there as well.
		{least, 0, []api.Class{first, least}},
		{second, 0, []api.Class{first, least, second}},
		// The store is full: a duplicate comes first.
		{api.Class{ID: 6, Priority: 20}, api.Full, []api.Class{first, least, second}},
		{first, api.Duplicate, []api.Class{first, least, second}},
		{api.Class{ID: 5, Priority: 20}, api.Duplicate, []api.Class{first, least, second}},
		{api.Class{ID: -1}, api.Duplicate, []api.Class{first, least, second}},
		{second, api.Duplicate, []api.Class{first, least, second}},
		// An ID that was not added is no duplicate.
		{api.Class{ID: 6, Priority: 21}, api.Full, []api.Class{first, least, second}},
	} {
		if err := s.Add(x.c); !isFault(err, x.code) {
			t.Error(i, err, x.code)
		}
		holds(t, s, x.want...)
	}
}

// isFault reports whether an error is the api.Fault with a code and the At 0, or nil for the code 0.
func isFault(err error, code api.Code) bool {
	if code == 0 {
		return err == nil
	}
	return err == api.Fault{Code: code}
}

// P11.1: the errors are faults of their own type, from which the library and its users take the code.
func TestErrorsAreFaults(t *testing.T) {
	s := of(t, 1, api.Class{ID: 7})
	_, missing := s.Pod(op.Pod(1, 8, 0, 1), 0)
	for want, err := range map[api.Fault]error{
		{Code: api.Duplicate}:      s.Add(api.Class{ID: 7}),
		{Code: api.Full}:           s.Add(api.Class{ID: 8}),
		{Code: api.Unknown, At: 1}: missing,
	} {
		got, ok := err.(api.Fault)
		if !ok || got != want || !errors.Is(err, want.Code) || err.Error() != want.Code.Error() {
			t.Error(err, want)
		}
	}
}

// P11.1: classes may have any fields, and are added in any order.
func TestAddAnyClass(t *testing.T) {
	for _, l := range lists() {
		for turn := range max(1, len(l)) {
			turned := slices.Concat(l[turn:], l[:turn])
			s := New(len(l))
			for n, c := range turned {
				holds(t, s, turned[:n]...)
				if err := s.Add(c); err != nil {
					t.Error(l, c, err)
				}
			}
			holds(t, s, turned...)
		}
	}
}

// P11.2: each class is found, and those of other IDs are not.
func TestGet(t *testing.T) {
	for _, l := range lists() {
		s := of(t, len(l)+1, l...)
		holds(t, s, l...)
		for _, id := range []int{0, 1, -1, 4, 5, math.MaxInt, math.MinInt} {
			if !slices.ContainsFunc(l, func(c api.Class) bool { return c.ID == id }) {
				lacks(t, s, id)
			}
		}
	}
}

// P11.2: the order of many classes does not change from call to call.
func TestAllIsSorted(t *testing.T) {
	s := New(1000)
	var want []api.Class
	for i := range 1000 {
		c := api.Class{ID: 37 * (i - 500), Priority: i % 7}
		want = append(want, c)
	}
	for i := range want {
		s.Add(want[(i*617)%1000])
	}
	for range 20 {
		if all := s.All(); !slices.Equal(all, want) {
			t.Fatal(all)
		}
	}
}

// P11.2: what All returns shares no memory with the store, nor with other results.
func TestAllIsACopy(t *testing.T) {
	a, b := api.Class{ID: 1, Priority: 5}, api.Class{ID: 2, Priority: 6, Preempts: true}
	s := of(t, 3, a, b)
	all, other := s.All(), s.All()
	all[0], all[1] = api.Class{ID: 8}, api.Class{ID: 9}
	if all = append(all, api.Class{ID: 10}); !slices.Equal(other, []api.Class{a, b}) {
		t.Error(all, other)
	}
	holds(t, s, a, b)
	s.Add(api.Class{})
	if !slices.Equal(other, []api.Class{a, b}) {
		t.Error(other)
	}
}

// P11.2: the greatest priority counts, whatever the IDs are, and then the least ID.
func TestHighest(t *testing.T) {
	for i, x := range []struct {
		classes []api.Class
		want    api.Class
		ok      bool
	}{
		{nil, api.Class{}, false},
		{[]api.Class{{}}, api.Class{}, true},
		{[]api.Class{{ID: 3, Priority: -7, Preempts: true}}, api.Class{ID: 3, Priority: -7, Preempts: true}, true},
		{[]api.Class{{ID: 1, Priority: 5}, {ID: 2, Priority: 6}}, api.Class{ID: 2, Priority: 6}, true},
		{[]api.Class{{ID: 2, Priority: 5}, {ID: 1, Priority: 6}}, api.Class{ID: 1, Priority: 6}, true},
		{[]api.Class{{ID: 2, Priority: 6}, {ID: 1, Priority: 6, Preempts: true}}, api.Class{ID: 1, Priority: 6, Preempts: true}, true},
		{[]api.Class{{ID: 2, Priority: 6, Preempts: true}, {ID: 1, Priority: 6}}, api.Class{ID: 1, Priority: 6}, true},
		{[]api.Class{{ID: 9, Priority: 6}, {ID: 4, Priority: 6}, {ID: -5, Priority: 1}, {ID: 6, Priority: 6}}, api.Class{ID: 4, Priority: 6}, true},
		{[]api.Class{{ID: 1, Priority: -2}, {ID: 2, Priority: -1}}, api.Class{ID: 2, Priority: -1}, true},
		{[]api.Class{{ID: 1, Priority: math.MinInt}, {ID: 2, Priority: math.MaxInt}}, api.Class{ID: 2, Priority: math.MaxInt}, true},
		{[]api.Class{{ID: 1, Priority: math.MaxInt}, {ID: 2, Priority: math.MinInt}}, api.Class{ID: 1, Priority: math.MaxInt}, true},
		{[]api.Class{{ID: math.MaxInt, Priority: 1}, {ID: math.MinInt, Priority: 1}}, api.Class{ID: math.MinInt, Priority: 1}, true},
	} {
		s := of(t, len(x.classes), x.classes...)
		for range 2 {
			if got, ok := s.Highest(); got != x.want || ok != x.ok {
				t.Error(i, got, ok)
			}
		}
	}
}

// P11.2: a class is a value of its own.
func TestClassesAreValues(t *testing.T) {
	c := api.Class{ID: 1, Priority: 2}
	s := New(1)
	s.Add(c)
	c.Priority = 3
	got, _ := s.Get(1)
	got.Priority = 4
	best, _ := s.Highest()
	best.Priority = 5
	holds(t, s, api.Class{ID: 1, Priority: 2})
}

// The example of the chapter.
func TestExample(t *testing.T) {
	s := of(t, 1, api.Class{ID: 2, Priority: 9})
	if p, err := s.Pod(op.Pod(1, 2, 5, 3), 0); p.Priority != 9 || p.Grace != 5 || err != nil {
		t.Error(p, err)
	}
}

// P11.3: each field of the pod, which has those of its own class and not of another one.
func TestPod(t *testing.T) {
	s := of(t, 3, api.Class{ID: 2, Priority: 9, Preempts: true}, api.Class{ID: 3, Priority: -4}, api.Class{})
	for i, x := range []struct {
		o       api.Op
		arrival int
		want    api.Pod
	}{
		{op.Pod(1, 2, 5, 3, 4), 7, api.Pod{ID: 1, Priority: 9, Preempts: true, Grace: 5, Request: []int64{3, 4}, Arrival: 7}},
		{op.Pod(1, 3, 5, 3, 4), 7, api.Pod{ID: 1, Priority: -4, Grace: 5, Request: []int64{3, 4}, Arrival: 7}},
		{op.Pod(2, 0, 1, 8), 0, api.Pod{ID: 2, Grace: 1, Request: []int64{8}}},
		{op.Pod(3, 2, 0), 1, api.Pod{ID: 3, Priority: 9, Preempts: true, Arrival: 1}},
		{api.Op{}, 0, api.Pod{}},
		// Fields that are not well made stay as they are.
		{op.Pod(-1, 3, -5, -6, math.MinInt64, math.MaxInt64), -8, api.Pod{ID: -1, Priority: -4, Grace: -5, Request: []int64{-6, math.MinInt64, math.MaxInt64}, Arrival: -8}},
		{op.Pod(math.MaxInt, 3, math.MaxInt, 1, 2, 3, 4, 5, 6, 7, 8, 9), math.MaxInt, api.Pod{ID: math.MaxInt, Priority: -4, Grace: math.MaxInt, Request: []int64{1, 2, 3, 4, 5, 6, 7, 8, 9}, Arrival: math.MaxInt}},
		{op.Pod(math.MinInt, 3, math.MinInt, 1), math.MinInt, api.Pod{ID: math.MinInt, Priority: -4, Grace: math.MinInt, Request: []int64{1}, Arrival: math.MinInt}},
	} {
		x.want.Phase, x.want.Node, x.want.Deadline = api.Pending, api.None, api.None
		if p, err := s.Pod(x.o, x.arrival); !same(p, x.want) || err != nil {
			t.Error(i, p, err, "want", x.want)
		}
	}
}

// P11.3: neither the kind nor the flag matters.
func TestPodOfAnyKind(t *testing.T) {
	s := of(t, 2, api.Class{ID: 2, Priority: 9, Preempts: true}, api.Class{ID: 3, Priority: 9})
	for _, kind := range []int{math.MinInt, -1, 0, api.OpClass, api.OpNode, api.OpDrop, api.OpPod, api.OpDelete, api.OpTick, api.OpCycle, 8, math.MaxInt} {
		for _, flag := range []bool{false, true} {
			for id, preempts := range map[int]bool{2: true, 3: false} {
				want := api.Pod{ID: 1, Priority: 9, Preempts: preempts, Grace: 5, Request: []int64{3}, Arrival: 6, Phase: api.Pending, Node: api.None, Deadline: api.None}
				o := api.Op{Kind: kind, ID: 1, Class: id, N: 5, Flag: flag, Amounts: []int64{3}}
				if p, err := s.Pod(o, 6); !same(p, want) || err != nil {
					t.Error(kind, flag, p, err)
				}
			}
			o := api.Op{Kind: kind, ID: 2, Class: 4, N: 5, Flag: flag, Amounts: []int64{3}}
			if p, err := s.Pod(o, 6); !isZero(p) || err != (api.Fault{Code: api.Unknown, At: 1}) {
				t.Error(kind, flag, p, err)
			}
		}
	}
}

// P11.3: an unknown class, also one that was not added.
func TestPodOfUnknownClass(t *testing.T) {
	for _, l := range lists() {
		s := of(t, len(l), l...)
		for _, id := range outside {
			// The ID of the pod may be that of a class.
			for _, pod := range []int{0, 1, 4, id} {
				if p, err := s.Pod(op.Pod(pod, id, 5, 3), 2); !isZero(p) || err != (api.Fault{Code: api.Unknown, At: 1}) {
					t.Error(l, id, p, err)
				}
			}
			s.Add(api.Class{ID: id})
			lacks(t, s, id)
		}
		holds(t, s, l...)
	}
}

// P11.3: the request is a copy, as is that of each other pod, and the operation stays as it is.
func TestRequestIsACopy(t *testing.T) {
	s := of(t, 1, api.Class{ID: 2, Priority: 9})
	memory := []int64{3, 4, 5, 6}
	o := api.Op{Kind: api.OpPod, ID: 1, Class: 2, Amounts: memory[:2]}
	p, _ := s.Pod(o, 0)
	q, _ := s.Pod(o, 1)
	p.Request[0] = 7
	p.Request = append(p.Request, 8)
	if !slices.Equal(memory, []int64{3, 4, 5, 6}) || !slices.Equal(q.Request, []int64{3, 4}) {
		t.Error(memory, q.Request)
	}
	memory[0], memory[1] = 9, 9
	if !slices.Equal(p.Request, []int64{7, 4, 8}) || !slices.Equal(q.Request, []int64{3, 4}) {
		t.Error(p.Request, q.Request)
	}
}

// P11.3: the pod of an operation does not change the store, and may be made again.
func TestPodChangesNothing(t *testing.T) {
	for _, l := range lists() {
		s := of(t, len(l), l...)
		for _, c := range l {
			for range 2 {
				want := api.Pod{ID: 1, Priority: c.Priority, Preempts: c.Preempts, Grace: 5, Request: []int64{3}, Arrival: 2, Phase: api.Pending, Node: api.None, Deadline: api.None}
				if p, err := s.Pod(op.Pod(1, c.ID, 5, 3), 2); !same(p, want) || err != nil {
					t.Error(l, p, err)
				}
			}
			holds(t, s, l...)
		}
	}
}

// numbers returns a function whose results are from 0 to less than the argument, and the same in each test.
func numbers() func(n int) int {
	x := uint64(7)
	return func(n int) int {
		x = x*6364136223846793005 + 1442695040888963407
		return int(x >> 33 % uint64(n))
	}
}

// P11.1 to P11.3: in many runs of calls, the store answers as a plain list does.
func TestModel(t *testing.T) {
	next, met := numbers(), map[api.Code]int{}
	for range 200 {
		size := next(12)
		s, l := New(size), []api.Class(nil)
		for range 30 {
			c := api.Class{ID: next(20) - 5, Priority: next(6) - 3, Preempts: next(2) == 0}
			var want api.Code
			switch {
			case slices.ContainsFunc(l, func(x api.Class) bool { return x.ID == c.ID }):
				want = api.Duplicate
			case len(l) == size:
				want = api.Full
			default:
				l = append(l, c)
			}
			if err := s.Add(c); !isFault(err, want) {
				t.Fatal(c, err, want)
			}
			met[want]++
			if holds(t, s, l...); t.Failed() {
				t.FailNow()
			}
		}
	}
	for _, code := range []api.Code{0, api.Duplicate, api.Full} {
		if met[code] < 100 {
			t.Error(code, "was met", met[code], "times")
		}
	}
}

// On a nil Store, Add and Pod return the api.Fault with the code Unknown and the At 0, and the other methods zero values.
func TestNil(t *testing.T) {
	var s *Store
	for _, id := range []int{0, 1, -1, math.MaxInt} {
		if err := s.Add(api.Class{ID: id, Priority: 1, Preempts: true}); err != (api.Fault{Code: api.Unknown}) {
			t.Error(id, err)
		}
		if p, err := s.Pod(op.Pod(1, id, 2, 3), 4); !isZero(p) || err != (api.Fault{Code: api.Unknown}) {
			t.Error(id, p, err)
		}
		if c, ok := s.Get(id); c != (api.Class{}) || ok {
			t.Error(id, c, ok)
		}
	}
	if c, ok := s.Highest(); c != (api.Class{}) || ok || len(s.All()) != 0 {
		t.Error(c, ok, s.All())
	}
}
