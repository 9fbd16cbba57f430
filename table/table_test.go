package table

import (
	"errors"
	"maps"
	"math"
	"slices"
	"strconv"
	"testing"

	"hammock/api"
)

// outside are ids that the tables of most tests do not have.
var outside = []int{-2, 9, 10, 255, 256, 1 << 31, 1<<32 + 1, math.MinInt + 1, math.MaxInt - 1}

// text returns the element that of adds with an id.
func text(id int) string { return "element " + strconv.Itoa(id) }

// of returns a table with a size and elements with ids, which must be different.
func of(t *testing.T, size int, ids ...int) *Table[string] {
	t.Helper()
	table := New[string](size)
	for _, id := range ids {
		if err := table.Add(id, text(id)); err != nil {
			t.Fatal(id, err)
		}
	}
	return table
}

// texts returns the elements that of adds with ids.
func texts(ids ...int) map[int]string {
	want := map[int]string{}
	for _, id := range ids {
		want[id] = text(id)
	}
	return want
}

// holds checks that a table has a size and exactly these elements, by every method that does not change it.
func holds[T comparable](t *testing.T, table *Table[T], size int, want map[int]T) {
	t.Helper()
	for range 2 {
		if ids := table.IDs(); !slices.Equal(ids, slices.Sorted(maps.Keys(want))) {
			t.Error("ids:", ids, "want", want)
		}
		if table.Len() != len(want) || table.Room() != size-len(want) {
			t.Error("got", table.Len(), "elements with room for", table.Room(), "want", len(want), size-len(want))
		}
		for id, x := range want {
			if got, ok := table.Get(id); !ok || got != x {
				t.Error("element", id, "is", got, ok, "want", x)
			}
		}
		for _, id := range outside {
			if _, ok := want[id]; !ok {
				lacks(t, table, id)
			}
		}
	}
}

// lacks checks that a table has no element with an id.
func lacks[T comparable](t *testing.T, table *Table[T], id int) {
	t.Helper()
	if got, ok := table.Get(id); ok || got != *new(T) {
		t.Error("element", id, "is", got, ok)
	}
}

// lists are lists of different ids.
func lists() [][]int {
	return [][]int{
		nil,
		{4},
		{0},
		{-1},
		{1, 2},
		{3, 0, -3},
		{-1, -10, -9, 100, 20, 3},
		{math.MaxInt, math.MinInt, 0, 1, -1},
		{api.MaxID, 1, 1 << 32, 1<<32 + 2},
		{7, 6, 5, 4, 3, 2, 1, 0},
	}
}

// P10.1
func TestNewIsEmpty(t *testing.T) {
	for size, want := range map[int]int{
		0: 0, 1: 1, 2: 2, 1000: 1000, api.MaxPods: api.MaxPods, math.MaxInt: math.MaxInt,
		-1: 0, -2: 0, -1000: 0, math.MinInt: 0,
	} {
		table := New[string](size)
		if table == nil {
			t.Fatal("no table for", size)
		}
		holds(t, table, want, nil)
	}
}

// P10.1 and P10.2: a table has as many elements as its size, and no more.
func TestSizes(t *testing.T) {
	for size, want := range map[int]int{math.MinInt: 0, -7: 0, -1: 0, 0: 0, 1: 1, 2: 2, 3: 3, 64: 64} {
		table := New[string](size)
		for id := range want {
			if err := table.Add(id, text(id)); err != nil {
				t.Error(size, id, err)
			}
			if table.Room() != want-id-1 {
				t.Error(size, id, table.Room())
			}
		}
		all := map[int]string{}
		for id := range want {
			all[id] = text(id)
		}
		for _, id := range []int{want, -1, 1000} {
			if err := table.Add(id, text(id)); err != api.Full {
				t.Error(size, id, err)
			}
			holds(t, table, want, all)
		}
	}
}

// P10.1: tables are apart.
func TestTablesAreApart(t *testing.T) {
	a, b := New[string](2), New[string](2)
	a.Add(1, "a")
	holds(t, b, 2, nil)
	if err := b.Add(1, "b"); err != nil {
		t.Error(err)
	}
	b.Add(2, "c")
	holds(t, a, 2, map[int]string{1: "a"})
	a.Remove(1)
	holds(t, b, 2, map[int]string{1: "b", 2: "c"})
}

// The example of the chapter.
func TestExample(t *testing.T) {
	table := New[string](1)
	if err := table.Add(7, text(7)); err != nil {
		t.Error(err)
	}
	if err := table.Add(8, text(8)); err != api.Full {
		t.Error(err)
	}
	holds(t, table, 1, texts(7))
}

// P10.2: what is added, and what is not.
func TestAdd(t *testing.T) {
	table := New[string](3)
	for i, x := range []struct {
		id   int
		x    string
		err  error
		want map[int]string
	}{
		{5, "a", nil, map[int]string{5: "a"}},
		// An id that is there, with the same element or another one.
		{5, "a", api.Duplicate, map[int]string{5: "a"}},
		{5, "b", api.Duplicate, map[int]string{5: "a"}},
		// Another id with the same element, and the least ones.
		{-1, "a", nil, map[int]string{5: "a", -1: "a"}},
		{0, "", nil, map[int]string{5: "a", -1: "a", 0: ""}},
		// The table is full: a duplicate comes first.
		{6, "c", api.Full, map[int]string{5: "a", -1: "a", 0: ""}},
		{5, "c", api.Duplicate, map[int]string{5: "a", -1: "a", 0: ""}},
		{0, "c", api.Duplicate, map[int]string{5: "a", -1: "a", 0: ""}},
		{-1, "c", api.Duplicate, map[int]string{5: "a", -1: "a", 0: ""}},
		// An id that was not added is no duplicate.
		{6, "d", api.Full, map[int]string{5: "a", -1: "a", 0: ""}},
	} {
		if err := table.Add(x.id, x.x); err != x.err {
			t.Error(i, err, x.err)
		}
		holds(t, table, 3, x.want)
	}
}

// P10.2: a zero element, which Get returns for an id that is not there as well, is one.
func TestAddZeroElement(t *testing.T) {
	table := New[string](2)
	if err := table.Add(3, ""); err != nil {
		t.Error(err)
	}
	if err := table.Add(3, "a"); err != api.Duplicate {
		t.Error(err)
	}
	holds(t, table, 2, map[int]string{3: ""})
	if err := table.Set(3, ""); err != nil {
		t.Error(err)
	}
	if x, ok := table.Remove(3); x != "" || !ok {
		t.Error(x, ok)
	}
	holds(t, table, 2, nil)
}

// P10.2: the errors are the codes, in no type of their own.
func TestErrorsAreCodes(t *testing.T) {
	table := of(t, 1, 7)
	for want, err := range map[api.Code]error{
		api.Duplicate: table.Add(7, "a"),
		api.Full:      table.Add(8, "a"),
		api.Unknown:   table.Set(8, "a"),
	} {
		var code api.Code
		if err != want || !errors.Is(err, want) || !errors.As(err, &code) || code != want {
			t.Error(err, want)
		}
	}
}

// P10.2 and P10.3: an id that was removed may be added again, as may another one in its place.
func TestAddAgain(t *testing.T) {
	table := of(t, 2, 1, 2)
	table.Remove(1)
	if err := table.Add(1, "again"); err != nil {
		t.Error(err)
	}
	holds(t, table, 2, map[int]string{1: "again", 2: text(2)})
	table.Remove(2)
	if err := table.Add(3, "other"); err != nil {
		t.Error(err)
	}
	if err := table.Add(2, "late"); err != api.Full {
		t.Error(err)
	}
	holds(t, table, 2, map[int]string{1: "again", 3: "other"})
}

// P10.3: each element is found, and those of other ids are not.
func TestGet(t *testing.T) {
	for _, ids := range lists() {
		table := of(t, len(ids), ids...)
		holds(t, table, len(ids), texts(ids...))
		for _, id := range []int{0, 1, -1, 4, 5, math.MaxInt, math.MinInt} {
			if !slices.Contains(ids, id) {
				lacks(t, table, id)
			}
		}
	}
}

// P10.3: each element is replaced in each table, and the others stay.
func TestSet(t *testing.T) {
	for _, ids := range lists() {
		for _, room := range []int{0, 1, 5} {
			for _, id := range ids {
				table, want := of(t, len(ids)+room, ids...), texts(ids...)
				for _, x := range []string{"other", "", "other", text(id)} {
					want[id] = x
					if err := table.Set(id, x); err != nil {
						t.Error(ids, id, err)
					}
					holds(t, table, len(ids)+room, want)
				}
			}
		}
	}
}

// P10.3: an id that no element has.
func TestSetNothing(t *testing.T) {
	for _, ids := range lists() {
		for _, room := range []int{0, 1, 5} {
			table := of(t, len(ids)+room, ids...)
			for _, id := range outside {
				if err := table.Set(id, text(id)); err != api.Unknown {
					t.Error(ids, id, err)
				}
				holds(t, table, len(ids)+room, texts(ids...))
			}
		}
	}
	table := of(t, 1, 1)
	table.Remove(1)
	if err := table.Set(1, "gone"); err != api.Unknown {
		t.Error(err)
	}
	holds(t, table, 1, nil)
}

// P10.3: each element is removed from each table, and the others stay.
func TestRemove(t *testing.T) {
	for _, ids := range lists() {
		for _, id := range ids {
			table, want := of(t, len(ids)+1, ids...), texts(ids...)
			if x, ok := table.Remove(id); !ok || x != text(id) {
				t.Error(ids, id, x, ok)
			}
			delete(want, id)
			lacks(t, table, id)
			holds(t, table, len(ids)+1, want)
			if x, ok := table.Remove(id); ok || x != "" {
				t.Error(ids, id, "again:", x, ok)
			}
			holds(t, table, len(ids)+1, want)
		}
	}
}

// P10.3: what is removed is the element that Set has put there.
func TestRemoveWhatWasSet(t *testing.T) {
	table := of(t, 2, 1, 2)
	table.Set(1, "other")
	table.Add(1, "duplicate")
	if x, ok := table.Remove(1); x != "other" || !ok {
		t.Error(x, ok)
	}
	holds(t, table, 2, texts(2))
}

// P10.3: all elements are removed, one after the other.
func TestRemoveAll(t *testing.T) {
	for _, ids := range lists() {
		table, want := of(t, len(ids), ids...), texts(ids...)
		for _, id := range ids {
			if x, ok := table.Remove(id); !ok || x != text(id) {
				t.Error(ids, id, x, ok)
			}
			delete(want, id)
			holds(t, table, len(ids), want)
		}
	}
}

// P10.3: an id that no element has.
func TestRemoveNothing(t *testing.T) {
	for _, ids := range lists() {
		table := of(t, len(ids)+1, ids...)
		for _, id := range outside {
			if x, ok := table.Remove(id); ok || x != "" {
				t.Error(ids, id, x, ok)
			}
			holds(t, table, len(ids)+1, texts(ids...))
		}
	}
}

// P10.4: after each change, the methods tell the elements that are there, in whatever order they were added.
func TestIDsLenRoom(t *testing.T) {
	for _, ids := range lists() {
		for turn := range max(1, len(ids)) {
			table := New[string](len(ids) + 2)
			turned := slices.Concat(ids[turn:], ids[:turn])
			for n, id := range turned {
				holds(t, table, len(ids)+2, texts(turned[:n]...))
				table.Add(id, text(id))
			}
			holds(t, table, len(ids)+2, texts(ids...))
		}
	}
}

// P10.4: the order of many ids does not change from call to call, though that of a map does.
func TestIDsAreSorted(t *testing.T) {
	table := New[int](1000)
	var want []int
	for i := range 1000 {
		id := 37 * (i - 500)
		table.Add(-id, i)
		want = append(want, id+37)
	}
	for range 20 {
		if ids := table.IDs(); !slices.Equal(ids, want) {
			t.Fatal(ids)
		}
	}
}

// P10.4: what IDs returns shares no memory with the table, nor with other results.
func TestIDsAreCopies(t *testing.T) {
	table := of(t, 4, 3, 1, 2)
	ids, other := table.IDs(), table.IDs()
	ids[0], ids[1], ids[2] = 7, 8, 9
	if ids = append(ids, 5); !slices.Equal(other, []int{1, 2, 3}) {
		t.Error(ids, other)
	}
	holds(t, table, 4, texts(1, 2, 3))
	table.Remove(1)
	table.Add(0, text(0))
	if !slices.Equal(other, []int{1, 2, 3}) {
		t.Error(other)
	}
}

// P10.1 to P10.4: elements may be of any type, also of one whose values cannot be compared.
func TestElementsOfAnyType(t *testing.T) {
	pods := New[api.Pod](1)
	if err := pods.Add(1, api.Pod{ID: 7, Grace: 5, Request: []int64{1, 2}}); err != nil {
		t.Error(err)
	}
	if p, ok := pods.Get(1); !ok || p.ID != 7 || p.Grace != 5 || !slices.Equal(p.Request, []int64{1, 2}) {
		t.Error(p, ok)
	}
	if p, ok := pods.Remove(2); ok || p.ID != 0 || p.Request != nil {
		t.Error(p, ok)
	}
	functions := New[func() int](1)
	if f, ok := functions.Get(1); ok || f != nil {
		t.Error(ok)
	}
	functions.Add(1, func() int { return 4 })
	functions.Set(1, func() int { return 5 })
	if f, ok := functions.Remove(1); !ok || f() != 5 {
		t.Error(ok)
	}
	values := New[any](3)
	values.Add(1, nil)
	values.Add(2, []int{3})
	if x, ok := values.Get(1); x != nil || !ok {
		t.Error(x, ok)
	}
	if x, ok := values.Get(3); x != nil || ok {
		t.Error(x, ok)
	}
	if ids := values.IDs(); !slices.Equal(ids, []int{1, 2}) || values.Room() != 1 {
		t.Error(ids, values.Room())
	}
}

// P10.3: an element is a value of its own, unless it is a pointer.
func TestElementsAreValues(t *testing.T) {
	classes, x := New[api.Class](1), api.Class{ID: 1, Priority: 2}
	classes.Add(1, x)
	x.Priority = 3
	got, _ := classes.Get(1)
	got.Priority = 4
	holds(t, classes, 1, map[int]api.Class{1: {ID: 1, Priority: 2}})
	pointers := New[*api.Class](1)
	pointers.Add(1, &x)
	holds(t, pointers, 1, map[int]*api.Class{1: &x})
}

// numbers returns a function whose results are from 0 to less than the argument, and the same in each test.
func numbers() func(n int) int {
	x := uint64(7)
	return func(n int) int {
		x = x*6364136223846793005 + 1442695040888963407
		return int(x >> 33 % uint64(n))
	}
}

// model is a table that is nothing but a list of ids and one of elements.
type model struct {
	size     int
	ids      []int
	elements []int
}

// add adds an element with an id.
func (m *model) add(id, x int) error {
	if slices.Contains(m.ids, id) {
		return api.Duplicate
	}
	if len(m.ids) == m.size {
		return api.Full
	}
	m.ids, m.elements = append(m.ids, id), append(m.elements, x)
	return nil
}

// set replaces the element with an id.
func (m *model) set(id, x int) error {
	i := slices.Index(m.ids, id)
	if i < 0 {
		return api.Unknown
	}
	m.elements[i] = x
	return nil
}

// remove removes the element with an id.
func (m *model) remove(id int) (int, bool) {
	i := slices.Index(m.ids, id)
	if i < 0 {
		return 0, false
	}
	x := m.elements[i]
	m.ids, m.elements = slices.Delete(m.ids, i, i+1), slices.Delete(m.elements, i, i+1)
	return x, true
}

// all returns the elements with their ids.
func (m *model) all() map[int]int {
	all := map[int]int{}
	for i, id := range m.ids {
		all[id] = m.elements[i]
	}
	return all
}

// P10.1 to P10.4: in a long run of calls, the table answers as the model does.
func TestModel(t *testing.T) {
	const size = 20
	table, m, next := New[int](size), &model{size: size}, numbers()
	met := map[error]int{}
	for i := range 5000 {
		id, x := next(40)-5, next(9)
		switch next(4) {
		case 0, 1:
			err, want := table.Add(id, x), m.add(id, x)
			if err != want {
				t.Fatal(i, "add:", err, want)
			}
			met[err]++
		case 2:
			err, want := table.Set(id, x), m.set(id, x)
			if err != want {
				t.Fatal(i, "set:", err, want)
			}
			met[err]++
		default:
			got, ok := table.Remove(id)
			if want, is := m.remove(id); got != want || ok != is {
				t.Fatal(i, "remove:", got, ok, want, is)
			}
		}
		holds(t, table, size, m.all())
		if t.Failed() {
			t.Fatal(i)
		}
	}
	for _, err := range []error{nil, api.Duplicate, api.Full, api.Unknown} {
		if met[err] < 100 {
			t.Error(err, "was met", met[err], "times")
		}
	}
}

// P10.2 to P10.4: as many elements as there may be pods.
func TestMany(t *testing.T) {
	table, want := New[int](api.MaxPods), map[int]int{}
	for i := range api.MaxPods {
		id := 7*i - 1000
		if err := table.Add(id, i); err != nil {
			t.Fatal(id, err)
		}
		want[id] = i
	}
	holds(t, table, api.MaxPods, want)
	if err := table.Add(api.MaxID, 0); err != api.Full {
		t.Error(err)
	}
	if err := table.Add(-6, 0); err != api.Duplicate {
		t.Error(err)
	}
	for i := range api.MaxPods {
		id := 7*i - 1000
		if x, ok := table.Remove(id); x != i || !ok || table.Room() != i+1 {
			t.Fatal(id, x, ok, table.Room())
		}
	}
	holds(t, table, api.MaxPods, nil)
}

// On a nil Table, Add and Set return api.Unknown, and the other methods zero values.
func TestNil(t *testing.T) {
	var table *Table[string]
	for _, id := range []int{0, 1, -1, math.MaxInt} {
		if err := table.Add(id, "a"); err != api.Unknown {
			t.Error(id, err)
		}
		if err := table.Set(id, "a"); err != api.Unknown {
			t.Error(id, err)
		}
		if x, ok := table.Get(id); x != "" || ok {
			t.Error(id, x, ok)
		}
		if x, ok := table.Remove(id); x != "" || ok {
			t.Error(id, x, ok)
		}
	}
	if len(table.IDs()) != 0 || table.Len() != 0 || table.Room() != 0 {
		t.Error(table.IDs(), table.Len(), table.Room())
	}
}
