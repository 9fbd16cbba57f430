package node

import (
	"errors"
	"math"
	"slices"
	"testing"

	"hammock/api"
	"hammock/vec"
)

// outside are IDs that the stores of most tests do not have.
var outside = []int{-2, 9, 10, 255, 256, 1 << 31, 1<<32 + 1, math.MinInt + 1, math.MaxInt - 1}

// usage is a node that a store should have, with its usage.
type usage struct {
	id       int
	capacity []int64
	used     []int64
}

// vector returns its arguments.
func vector(v ...int64) []int64 { return v }

// add adds a node to a store.
func add(s *Store, id int, capacity ...int64) error {
	return s.Add(api.Node{ID: id, Capacity: capacity})
}

// of returns a store for up to size nodes of a dimension that has nodes, which must be right, with their usages.
func of(t *testing.T, dims, size int, nodes ...usage) *Store {
	t.Helper()
	s := New(dims, size)
	for _, n := range nodes {
		if err := add(s, n.id, n.capacity...); err != nil {
			t.Fatal(n, err)
		}
		if err := s.Hold(n.id, n.used); err != nil {
			t.Fatal(n, err)
		}
	}
	return s
}

// isNode reports whether a node has an ID and a capacity.
func isNode(n api.Node, id int, capacity []int64) bool {
	return n.ID == id && slices.Equal(n.Capacity, capacity)
}

// isFault reports whether an error is the api.Fault with a code and an index, or nil for the code 0.
func isFault(err error, code api.Code, at int) bool {
	if code == 0 {
		return err == nil
	}
	return err == api.Fault{Code: code, At: at}
}

// free returns the capacity minus the usage.
func (u usage) free() []int64 {
	v := make([]int64, len(u.capacity))
	for i := range v {
		v[i] = u.capacity[i] - u.used[i]
	}
	return v
}

// ids returns the IDs of nodes in ascending order.
func ids(nodes []usage) []int {
	var l []int
	for _, n := range nodes {
		l = append(l, n.id)
	}
	slices.Sort(l)
	return l
}

// holds checks that a store has a dimension and exactly these nodes with their usages, by every method that does not change it.
func holds(t *testing.T, s *Store, dims int, want ...usage) {
	t.Helper()
	for range 2 {
		if s.Dims() != dims {
			t.Error("dimension:", s.Dims(), "want", dims)
		}
		if got := s.IDs(); !slices.Equal(got, ids(want)) {
			t.Error("ids:", got, "want", ids(want))
		}
		for _, n := range want {
			if got, ok := s.Get(n.id); !ok || !isNode(got, n.id, n.capacity) {
				t.Error("node", n.id, "is", got, ok, "want", n.capacity)
			}
			if got := s.Used(n.id); !slices.Equal(got, n.used) {
				t.Error("usage of", n.id, "is", got, "want", n.used)
			}
			if got := s.Free(n.id); !slices.Equal(got, n.free()) {
				t.Error("free of", n.id, "is", got, "want", n.free())
			}
		}
		for _, id := range outside {
			if !slices.Contains(ids(want), id) {
				lacks(t, s, id)
			}
		}
	}
}

// lacks checks that a store has no node with an ID, by every method that does not add one.
func lacks(t *testing.T, s *Store, id int) {
	t.Helper()
	if n, ok := s.Get(id); ok || !isNode(n, 0, nil) {
		t.Error("node", id, "is", n, ok)
	}
	if used, left := s.Used(id), s.Free(id); len(used) != 0 || len(left) != 0 {
		t.Error("node", id, "has", used, left)
	}
	if n, err := s.Drop(id); !isNode(n, 0, nil) || !isFault(err, api.Unknown, 0) {
		t.Error("dropping", id, "returns", n, err)
	}
	// An unknown node comes before a vector that is not valid.
	for _, v := range [][]int64{vec.Zero(s.Dims() % 100), nil, {-1}, {1, -1}, {math.MaxInt64, 1, 2}} {
		if err := s.Hold(id, v); !isFault(err, api.Unknown, 0) {
			t.Error("holding", v, "on", id, "returns", err)
		}
		if err := s.Release(id, v); !isFault(err, api.Unknown, 0) {
			t.Error("releasing", v, "on", id, "returns", err)
		}
	}
}

// lists are lists of nodes of the dimension 2 with different IDs, and some vectors to hold on them.
func lists() [][]usage {
	return [][]usage{
		nil,
		{{4, vector(5, 2), vector(3, 1)}},
		{{0, vector(0, 0), vector(0, 0)}},
		{{-1, vector(1, 0), vector(1, 0)}, {1, vector(0, 1), vector(0, 0)}},
		// The same capacity, in descending order of the IDs.
		{{7, vector(9, 9), vector(0, 9)}, {5, vector(9, 9), vector(9, 0)}, {3, vector(9, 9), vector(9, 9)}},
		{{2, vector(1, 2), vector(0, 1)}, {-3, vector(3, 4), vector(2, 2)}, {6, vector(5, 6), vector(4, 3)}, {0, vector(7, 8), vector(6, 4)}},
		// IDs beyond the limits, and the greatest amounts.
		{{math.MaxInt, vector(api.MaxAmount, 1), vector(api.MaxAmount, 0)}, {math.MinInt, vector(1, api.MaxAmount), vector(1, api.MaxAmount-1)}, {0, vector(1, 1), vector(1, 1)}},
		{{api.MaxID, vector(1, 1), vector(0, 1)}, {1 << 32, vector(2, 2), vector(2, 0)}, {1<<32 + 2, vector(3, 3), vector(1, 2)}, {-api.MaxID, vector(4, 4), vector(3, 3)}},
	}
}

// P12.1: a new store is empty and has its dimension, whatever the numbers are.
func TestNewIsEmpty(t *testing.T) {
	for dims, want := range map[int]int{0: 0, 1: 1, 2: 2, api.MaxDims: api.MaxDims, 9: 9, math.MaxInt: math.MaxInt, -1: 0, -5: 0, math.MinInt: 0} {
		for _, size := range []int{0, 1, api.MaxNodes, 1 << 40, math.MaxInt, -1, math.MinInt} {
			s := New(dims, size)
			if s == nil {
				t.Fatal("no store for", dims, size)
			}
			holds(t, s, want)
			lacks(t, s, 0)
		}
	}
}

// P12.1: a store has as many nodes as its size, and no more; a negative size is treated as 0.
func TestSizes(t *testing.T) {
	for size, want := range map[int]int{math.MinInt: 0, -7: 0, -1: 0, 0: 0, 1: 1, 2: 2, 3: 3, api.MaxNodes: api.MaxNodes} {
		s := New(1, size)
		var all []usage
		for id := range want {
			if err := add(s, id, int64(id)); err != nil {
				t.Error(size, id, err)
			}
			all = append(all, usage{id, vector(int64(id)), vector(0)})
		}
		for _, id := range []int{want, -1, 5000} {
			if err := add(s, id, 1); !isFault(err, api.Full, 0) {
				t.Error(size, id, err)
			}
		}
		holds(t, s, 1, all...)
	}
}

// P12.1: a negative dimension is that of empty vectors.
func TestNoDimension(t *testing.T) {
	for _, dims := range []int{0, -1, -2, math.MinInt} {
		s := New(dims, 2)
		if err := add(s, 1); err != nil {
			t.Error(dims, err)
		}
		if err := add(s, 2, 0); !isFault(err, api.BadAmount, 0) {
			t.Error(dims, err)
		}
		for range 2 {
			if err := s.Hold(1, nil); err != nil {
				t.Error(dims, err)
			}
			if err := s.Release(1, vector()); err != nil {
				t.Error(dims, err)
			}
		}
		if err := s.Hold(1, vector(0)); !isFault(err, api.BadAmount, 0) {
			t.Error(dims, err)
		}
		holds(t, s, 0, usage{1, nil, nil})
	}
}

// P12.1: stores are apart.
func TestStoresAreApart(t *testing.T) {
	a, b := New(1, 1), New(2, 2)
	add(a, 1, 5)
	a.Hold(1, vector(3))
	holds(t, b, 2)
	if err := add(b, 1, 6, 7); err != nil {
		t.Error(err)
	}
	add(b, 2, 8, 9)
	b.Hold(1, vector(1, 2))
	holds(t, a, 1, usage{1, vector(5), vector(3)})
	a.Drop(1)
	holds(t, b, 2, usage{1, vector(6, 7), vector(1, 2)}, usage{2, vector(8, 9), vector(0, 0)})
}

// P12.1: what is added, and what is not, with the first one of several errors.
func TestAdd(t *testing.T) {
	first, least, zero := usage{5, vector(3, 4), vector(0, 0)}, usage{-1, vector(3, 4), vector(0, 0)}, usage{0, vector(0, 0), vector(0, 0)}
	s := New(2, 3)
	for i, x := range []struct {
		id       int
		capacity []int64
		code     api.Code
		at       int
		want     []usage
	}{
		{5, vector(3, -4), api.BadAmount, 1, nil},
		{5, vector(3, 4), 0, 0, []usage{first}},
		// An ID that is there, with the same capacity, another one, or one that is not valid.
		{5, vector(3, 4), api.Duplicate, 0, []usage{first}},
		{5, vector(9, 9), api.Duplicate, 0, []usage{first}},
		{5, vector(3, api.MaxAmount+1), api.BadAmount, 1, []usage{first}},
		{5, vector(3), api.BadAmount, 1, []usage{first}},
		// Another ID with the same capacity, and a capacity of zeros.
		{-1, vector(3, 4), 0, 0, []usage{first, least}},
		{0, vector(0, 0), 0, 0, []usage{first, least, zero}},
		// The store is full: a capacity that is not valid and a duplicate come first.
		{6, vector(1, 1), api.Full, 0, []usage{first, least, zero}},
		{6, vector(-1, 1), api.BadAmount, 0, []usage{first, least, zero}},
		{6, vector(1, 1, 1), api.BadAmount, 2, []usage{first, least, zero}},
		{0, vector(1, 1), api.Duplicate, 0, []usage{first, least, zero}},
		{0, vector(1, -1), api.BadAmount, 1, []usage{first, least, zero}},
		{5, vector(3, 4), api.Duplicate, 0, []usage{first, least, zero}},
		// An ID that was not added is no duplicate.
		{6, vector(2, 2), api.Full, 0, []usage{first, least, zero}},
	} {
		if err := add(s, x.id, x.capacity...); !isFault(err, x.code, x.at) {
			t.Error(i, err, "want", x.code, x.at)
		}
		holds(t, s, 2, x.want...)
	}
}

// wrong are vectors that are not valid for a dimension, with the result of vec.Wrong.
func wrong() []struct {
	dims int
	v    []int64
	at   int
} {
	return []struct {
		dims int
		v    []int64
		at   int
	}{
		{0, vector(0), 0},
		{0, vector(1, -1), 1},
		{1, nil, 0},
		{1, vector(-1), 0},
		{1, vector(1, 1), 1},
		{2, nil, 0},
		{2, vector(1), 1},
		{2, vector(-1), 0},
		{2, vector(1, 1, 1), 2},
		{2, vector(1, 1, 1, -1), 3},
		{2, vector(1, -1), 1},
		{2, vector(-1, -1), 0},
		{2, vector(0, api.MaxAmount+1), 1},
		{2, vector(math.MaxInt64, 0), 0},
		{2, vector(math.MinInt64, math.MaxInt64), 0},
		{3, vector(1, 1, 1<<62), 2},
		{api.MaxDims, vector(0, 1, 2, 3, 4, 5, 6), 7},
		{api.MaxDims, vector(0, 1, 2, 3, 4, 5, 6, -7), 7},
		{api.MaxDims, vector(0, 1, 2, 3, 4, 5, 6, 7, 8), 8},
		{math.MaxInt, vector(1, 2, 3), 3},
	}
}

// P12.1: the index of what is wrong with a capacity.
func TestAddWrongCapacity(t *testing.T) {
	for _, x := range wrong() {
		if at := vec.Wrong(x.v, x.dims); at != x.at {
			t.Error(x, at)
		}
		for _, size := range []int{0, 1, 2} {
			s := New(x.dims, size)
			for _, id := range []int{0, 1, -1} {
				if err := add(s, id, x.v...); !isFault(err, api.BadAmount, x.at) {
					t.Error(x, err)
				}
				holds(t, s, x.dims)
			}
		}
	}
}

// P12.1 and P12.3: the least and the greatest elements that are valid.
func TestLimits(t *testing.T) {
	s := New(api.MaxDims, 1)
	capacity, held := vec.Zero(api.MaxDims), vec.Zero(api.MaxDims)
	for i := range capacity {
		capacity[i] = api.MaxAmount * int64(i%2)
		held[i] = capacity[i]
	}
	if err := add(s, 1, capacity...); err != nil {
		t.Error(err)
	}
	if err := s.Hold(1, held); err != nil {
		t.Error(err)
	}
	holds(t, s, api.MaxDims, usage{1, capacity, held})
	if err := s.Hold(1, held); !isFault(err, api.Overflow, 0) {
		t.Error(err)
	}
	if err := s.Release(1, held); err != nil {
		t.Error(err)
	}
	holds(t, s, api.MaxDims, usage{1, capacity, vec.Zero(api.MaxDims)})
	if err := s.Release(1, held); !isFault(err, api.Overflow, 0) {
		t.Error(err)
	}
	held[1]++
	for _, change := range []func(int, []int64) error{s.Hold, s.Release} {
		if err := change(1, held); !isFault(err, api.BadAmount, 0) {
			t.Error(err)
		}
	}
	holds(t, s, api.MaxDims, usage{1, capacity, vec.Zero(api.MaxDims)})
}

// P12.1 to P12.4: the errors are faults of their own type, from which the library and its users take the code.
func TestErrorsAreFaults(t *testing.T) {
	s := of(t, 1, 1, usage{7, vector(5), vector(3)})
	_, missing := s.Drop(8)
	for want, err := range map[api.Fault]error{
		{Code: api.BadAmount, At: 1}: add(s, 8, 1, 2),
		{Code: api.Duplicate}:        add(s, 7, 1),
		{Code: api.Full}:             add(s, 8, 1),
		{Code: api.Unknown}:          missing,
		{Code: api.BadAmount}:        s.Hold(7, vector(1, 2)),
		{Code: api.Overflow}:         s.Release(7, vector(4)),
	} {
		got, ok := err.(api.Fault)
		if !ok || got != want || !errors.Is(err, want.Code) || err.Error() != want.Code.Error() {
			t.Error(err, want)
		}
	}
}

// P12.1 and P12.4: nodes are added in any order, and those that are there stay as they are.
func TestAddInAnyOrder(t *testing.T) {
	for _, l := range lists() {
		for turn := range max(1, len(l)) {
			turned := slices.Concat(l[turn:], l[:turn])
			s := New(2, len(l))
			for n, x := range turned {
				holds(t, s, 2, turned[:n]...)
				if err := add(s, x.id, x.capacity...); err != nil {
					t.Error(l, x, err)
				}
				holds(t, s, 2, append(slices.Clone(turned[:n]), usage{x.id, x.capacity, vector(0, 0)})...)
				if err := s.Hold(x.id, x.used); err != nil {
					t.Error(l, x, err)
				}
			}
			holds(t, s, 2, turned...)
		}
	}
}

// P12.1 and P12.2: a node that was dropped may be added again, with the usage zero, as may another one in its place.
func TestAddAgain(t *testing.T) {
	s := of(t, 2, 1, usage{1, vector(5, 2), vector(3, 1)})
	s.Drop(1)
	if err := add(s, 1, 4, 4); err != nil {
		t.Error(err)
	}
	holds(t, s, 2, usage{1, vector(4, 4), vector(0, 0)})
	s.Hold(1, vector(4, 4))
	s.Drop(1)
	if err := add(s, 2, 5, 2); err != nil {
		t.Error(err)
	}
	if err := add(s, 1, 5, 2); !isFault(err, api.Full, 0) {
		t.Error(err)
	}
	holds(t, s, 2, usage{2, vector(5, 2), vector(0, 0)})
}

// P12.2: each node is found, and those of other IDs are not.
func TestGet(t *testing.T) {
	for _, l := range lists() {
		s := of(t, 2, len(l)+1, l...)
		holds(t, s, 2, l...)
		for _, id := range []int{0, 1, -1, 4, 5, math.MaxInt, math.MinInt} {
			if !slices.Contains(ids(l), id) {
				lacks(t, s, id)
			}
		}
	}
}

// P12.2: each node is removed from each store, whatever its usage is, and the others stay.
func TestDrop(t *testing.T) {
	for _, l := range lists() {
		for i, x := range l {
			s := of(t, 2, len(l), l...)
			if n, err := s.Drop(x.id); err != nil || !isNode(n, x.id, x.capacity) {
				t.Error(l, x, n, err)
			}
			lacks(t, s, x.id)
			holds(t, s, 2, slices.Concat(l[:i], l[i+1:])...)
		}
	}
}

// P12.2: all nodes are removed, one after the other.
func TestDropAll(t *testing.T) {
	for _, l := range lists() {
		s := of(t, 2, len(l), l...)
		for i, x := range l {
			if n, err := s.Drop(x.id); err != nil || !isNode(n, x.id, x.capacity) {
				t.Error(l, x, n, err)
			}
			holds(t, s, 2, l[i+1:]...)
		}
	}
}

// P12.2: an ID that no node has changes nothing.
func TestDropNothing(t *testing.T) {
	for _, l := range lists() {
		s := of(t, 2, len(l), l...)
		for _, id := range outside {
			if n, err := s.Drop(id); !isFault(err, api.Unknown, 0) || !isNode(n, 0, nil) {
				t.Error(l, id, n, err)
			}
		}
		holds(t, s, 2, l...)
	}
}

// P12.2: a node that is dropped has its capacity, whatever was held and released on it.
func TestDropAfterChanges(t *testing.T) {
	s := of(t, 1, 1, usage{3, vector(9), vector(4)})
	s.Release(3, vector(1))
	s.Hold(3, vector(6))
	holds(t, s, 1, usage{3, vector(9), vector(9)})
	if n, err := s.Drop(3); err != nil || !isNode(n, 3, vector(9)) {
		t.Error(n, err)
	}
	lacks(t, s, 3)
}

// The example of the chapter.
func TestExample(t *testing.T) {
	s := New(2, 1)
	add(s, 1, 5, 2)
	if err := s.Hold(1, vector(3, 1)); err != nil {
		t.Error(err)
	}
	if err := s.Hold(1, vector(3, 1)); !isFault(err, api.Overflow, 0) {
		t.Error(err)
	}
	holds(t, s, 2, usage{1, vector(5, 2), vector(3, 1)})
}

// P12.3: what is held, and what is not, with the first one of several errors.
func TestHold(t *testing.T) {
	for i, x := range []struct {
		used, v []int64
		code    api.Code
		want    []int64
	}{
		{vector(0, 0, 0), vector(1, 2, 3), 0, vector(1, 2, 3)},
		{vector(1, 2, 3), vector(3, 2, 1), 0, vector(4, 4, 4)},
		{vector(1, 2, 3), vector(0, 0, 0), 0, vector(1, 2, 3)},
		// All that is free, in one element or in each one.
		{vector(1, 2, 3), vector(4, 0, 0), 0, vector(5, 2, 3)},
		{vector(1, 2, 3), vector(4, 4, 4), 0, vector(5, 6, 7)},
		{vector(5, 6, 7), vector(0, 0, 0), 0, vector(5, 6, 7)},
		// More than is free, in any one element or in each one: the others stay as they are.
		{vector(1, 2, 3), vector(5, 1, 1), api.Overflow, vector(1, 2, 3)},
		{vector(1, 2, 3), vector(1, 5, 1), api.Overflow, vector(1, 2, 3)},
		{vector(1, 2, 3), vector(1, 1, 5), api.Overflow, vector(1, 2, 3)},
		{vector(1, 2, 3), vector(5, 5, 5), api.Overflow, vector(1, 2, 3)},
		{vector(5, 6, 7), vector(0, 1, 0), api.Overflow, vector(5, 6, 7)},
		{vector(0, 0, 0), vector(6, 0, 0), api.Overflow, vector(0, 0, 0)},
		{vector(0, 0, 0), vector(0, 0, api.MaxAmount), api.Overflow, vector(0, 0, 0)},
		// Vectors that are not valid, also with more than is free.
		{vector(1, 2, 3), vector(1, -1, 0), api.BadAmount, vector(1, 2, 3)},
		{vector(1, 2, 3), vector(9, 9, -1), api.BadAmount, vector(1, 2, 3)},
		{vector(1, 2, 3), vector(-1, -2, -3), api.BadAmount, vector(1, 2, 3)},
		{vector(1, 2, 3), vector(0, 0, api.MaxAmount+1), api.BadAmount, vector(1, 2, 3)},
		{vector(1, 2, 3), vector(math.MaxInt64, math.MaxInt64, math.MaxInt64), api.BadAmount, vector(1, 2, 3)},
		{vector(1, 2, 3), vector(math.MinInt64, 0, 0), api.BadAmount, vector(1, 2, 3)},
		{vector(1, 2, 3), nil, api.BadAmount, vector(1, 2, 3)},
		{vector(1, 2, 3), vector(1, 1), api.BadAmount, vector(1, 2, 3)},
		{vector(1, 2, 3), vector(1, 1, 1, 0), api.BadAmount, vector(1, 2, 3)},
		{vector(5, 6, 7), vector(9, 9), api.BadAmount, vector(5, 6, 7)},
	} {
		other := usage{2, vector(9, 9, 9), vector(4, 5, 6)}
		s := of(t, 3, 2, usage{1, vector(5, 6, 7), x.used}, other)
		if err := s.Hold(1, x.v); !isFault(err, x.code, 0) {
			t.Error(i, err)
		}
		holds(t, s, 3, usage{1, vector(5, 6, 7), x.want}, other)
	}
}

// P12.3: what is released, and what is not, with the first one of several errors.
func TestRelease(t *testing.T) {
	for i, x := range []struct {
		used, v []int64
		code    api.Code
		want    []int64
	}{
		{vector(4, 4, 4), vector(3, 2, 1), 0, vector(1, 2, 3)},
		{vector(4, 4, 4), vector(0, 0, 0), 0, vector(4, 4, 4)},
		{vector(0, 0, 0), vector(0, 0, 0), 0, vector(0, 0, 0)},
		// All of the usage, in one element or in each one.
		{vector(1, 2, 3), vector(0, 2, 0), 0, vector(1, 0, 3)},
		{vector(1, 2, 3), vector(1, 2, 3), 0, vector(0, 0, 0)},
		{vector(5, 6, 7), vector(5, 6, 7), 0, vector(0, 0, 0)},
		// More than the usage, in any one element or in each one: the others stay as they are.
		{vector(1, 2, 3), vector(2, 1, 1), api.Overflow, vector(1, 2, 3)},
		{vector(1, 2, 3), vector(1, 3, 1), api.Overflow, vector(1, 2, 3)},
		{vector(1, 2, 3), vector(1, 1, 4), api.Overflow, vector(1, 2, 3)},
		{vector(1, 2, 3), vector(2, 3, 4), api.Overflow, vector(1, 2, 3)},
		{vector(0, 0, 0), vector(0, 0, 1), api.Overflow, vector(0, 0, 0)},
		{vector(5, 6, 7), vector(api.MaxAmount, 0, 0), api.Overflow, vector(5, 6, 7)},
		// Vectors that are not valid, also with more than the usage.
		{vector(1, 2, 3), vector(1, -1, 0), api.BadAmount, vector(1, 2, 3)},
		{vector(1, 2, 3), vector(9, 9, -1), api.BadAmount, vector(1, 2, 3)},
		{vector(1, 2, 3), vector(-1, -2, -3), api.BadAmount, vector(1, 2, 3)},
		{vector(1, 2, 3), vector(0, 0, api.MaxAmount+1), api.BadAmount, vector(1, 2, 3)},
		{vector(1, 2, 3), vector(math.MinInt64, math.MaxInt64, 0), api.BadAmount, vector(1, 2, 3)},
		{vector(1, 2, 3), nil, api.BadAmount, vector(1, 2, 3)},
		{vector(1, 2, 3), vector(1, 1), api.BadAmount, vector(1, 2, 3)},
		{vector(1, 2, 3), vector(1, 1, 1, 0), api.BadAmount, vector(1, 2, 3)},
		{vector(0, 0, 0), vector(9, 9), api.BadAmount, vector(0, 0, 0)},
	} {
		other := usage{2, vector(9, 9, 9), vector(4, 5, 6)}
		s := of(t, 3, 2, usage{1, vector(5, 6, 7), x.used}, other)
		if err := s.Release(1, x.v); !isFault(err, x.code, 0) {
			t.Error(i, err)
		}
		holds(t, s, 3, usage{1, vector(5, 6, 7), x.want}, other)
	}
}

// P12.3: a vector that is not valid has the index 0, whatever is wrong with it.
func TestChangeByWrongVector(t *testing.T) {
	for _, x := range wrong() {
		// A store of a greater dimension has no node on which something could be held.
		if x.dims > api.MaxDims {
			continue
		}
		n := usage{1, vec.Zero(x.dims), vec.Zero(x.dims)}
		for i := range n.capacity {
			n.capacity[i], n.used[i] = 9, 5
		}
		s := of(t, x.dims, 1, n)
		if err := s.Hold(1, x.v); !isFault(err, api.BadAmount, 0) {
			t.Error(x, err)
		}
		if err := s.Release(1, x.v); !isFault(err, api.BadAmount, 0) {
			t.Error(x, err)
		}
		holds(t, s, x.dims, n)
	}
}

// P12.3: a node that is not there, or was dropped.
func TestChangeUnknown(t *testing.T) {
	for _, l := range lists() {
		s := of(t, 2, len(l), l...)
		for _, id := range outside {
			lacks(t, s, id)
		}
		holds(t, s, 2, l...)
		for _, x := range l {
			s.Drop(x.id)
			lacks(t, s, x.id)
		}
	}
}

// P12.4: without nodes there are no IDs, and the order of many ones does not change from call to call.
func TestIDs(t *testing.T) {
	s := New(0, 1000)
	if l := s.IDs(); len(l) != 0 {
		t.Error(l)
	}
	var want []int
	for i := range 1000 {
		want = append(want, 37*(i-500))
	}
	for i := range want {
		add(s, want[(i*617)%1000])
	}
	for range 20 {
		if l := s.IDs(); !slices.Equal(l, want) {
			t.Fatal(l)
		}
	}
}

// P12.4: what is free and what is used after each change.
func TestUsedAndFree(t *testing.T) {
	s := of(t, 2, 1, usage{1, vector(5, 2), vector(0, 0)})
	for i, x := range []struct {
		change     func(int, []int64) error
		v          []int64
		used, free []int64
	}{
		{s.Hold, vector(0, 0), vector(0, 0), vector(5, 2)},
		{s.Hold, vector(3, 0), vector(3, 0), vector(2, 2)},
		{s.Hold, vector(2, 1), vector(5, 1), vector(0, 1)},
		{s.Hold, vector(0, 2), vector(5, 1), vector(0, 1)},
		{s.Hold, vector(0, 1), vector(5, 2), vector(0, 0)},
		{s.Release, vector(6, 0), vector(5, 2), vector(0, 0)},
		{s.Release, vector(4, 2), vector(1, 0), vector(4, 2)},
		{s.Release, vector(1, 1), vector(1, 0), vector(4, 2)},
		{s.Release, vector(1, 0), vector(0, 0), vector(5, 2)},
	} {
		x.change(1, x.v)
		if used, free := s.Used(1), s.Free(1); !slices.Equal(used, x.used) || !slices.Equal(free, x.free) {
			t.Error(i, used, free)
		}
	}
}

// Vectors are copied: those that are given.
func TestArgumentsAreCopied(t *testing.T) {
	memory := vector(5, 2, 8, 8)
	held := vector(3, 1, 7, 7)
	s := New(2, 1)
	s.Add(api.Node{ID: 1, Capacity: memory[:2]})
	s.Hold(1, held[:2])
	s.Hold(1, held[:2])
	if !slices.Equal(memory, vector(5, 2, 8, 8)) || !slices.Equal(held, vector(3, 1, 7, 7)) {
		t.Error(memory, held)
	}
	memory[0], memory[1], held[0], held[1] = 9, 9, 1, 1
	holds(t, s, 2, usage{1, vector(5, 2), vector(3, 1)})
	s.Release(1, held[:2])
	s.Release(1, held[1:3])
	held[0], held[1] = 4, 4
	if holds(t, s, 2, usage{1, vector(5, 2), vector(2, 0)}); !slices.Equal(held, vector(4, 4, 7, 7)) {
		t.Error(held)
	}
}

// Vectors are copied: those that are returned, each one apart from the others.
func TestResultsAreCopies(t *testing.T) {
	n := usage{1, vector(5, 2), vector(3, 1)}
	s := of(t, 2, 2, n, usage{2, vector(5, 2), vector(0, 0)})
	got, _ := s.Get(1)
	other, _ := s.Get(1)
	results := [][]int64{got.Capacity, other.Capacity, s.Used(1), s.Used(1), s.Free(1), s.Free(1)}
	for i, v := range results {
		want := vector(int64(i), 99)
		v[0], v[1] = want[0], want[1]
		_ = append(v, 98)
	}
	for i, v := range results {
		if !slices.Equal(v, vector(int64(i), 99)) {
			t.Error(i, v)
		}
	}
	all, again := s.IDs(), s.IDs()
	all[0], all[1] = 7, 8
	if !slices.Equal(again, []int{1, 2}) {
		t.Error(again)
	}
	holds(t, s, 2, n, usage{2, vector(5, 2), vector(0, 0)})
	// A node that is dropped is apart from the one that is added in its place.
	got, _ = s.Drop(1)
	s.Add(got)
	s.Hold(1, vector(3, 1))
	got.Capacity[0], got.Capacity[1] = 0, 0
	holds(t, s, 2, n, usage{2, vector(5, 2), vector(0, 0)})
}

// Vectors are copied: a result stays as it is when the store changes.
func TestResultsStay(t *testing.T) {
	s := of(t, 2, 1, usage{1, vector(5, 2), vector(3, 1)})
	n, _ := s.Get(1)
	used, free, all := s.Used(1), s.Free(1), s.IDs()
	s.Hold(1, vector(1, 1))
	s.Release(1, vector(2, 0))
	s.Drop(1)
	add(s, 2, 7, 7)
	if !isNode(n, 1, vector(5, 2)) || !slices.Equal(used, vector(3, 1)) || !slices.Equal(free, vector(2, 1)) || !slices.Equal(all, []int{1}) {
		t.Error(n, used, free, all)
	}
}

// numbers returns a function whose results are from 0 to less than the argument, and the same in each test.
func numbers() func(n int) int {
	x := uint64(7)
	return func(n int) int {
		x = x*6364136223846793005 + 1442695040888963407
		return int(x >> 33 % uint64(n))
	}
}

// some returns a vector whose elements are less than a limit, which is now and then not valid for the dimension.
func some(next func(int) int, dims, limit int) []int64 {
	v := make([]int64, dims)
	for i := range v {
		v[i] = int64(next(limit))
	}
	switch next(12) {
	case 0:
		v = append(v, 1)
	case 1:
		v[next(dims)] = -1
	case 2:
		v[next(dims)] = api.MaxAmount + 1
	}
	return v
}

// model is a store that is nothing but a list.
type model struct {
	dims, size int
	nodes      []usage
}

// index returns the index of the node with an ID, or -1.
func (m *model) index(id int) int {
	return slices.IndexFunc(m.nodes, func(n usage) bool { return n.id == id })
}

// first returns the index of the first element of a vector that is not valid for the dimension of the model, or -1.
func (m *model) first(v []int64) int {
	for i, x := range v {
		if x < 0 || x > api.MaxAmount {
			return i
		}
	}
	if len(v) != m.dims {
		return min(len(v), m.dims)
	}
	return -1
}

// add adds a node, or returns the code and the index of the error.
func (m *model) add(id int, capacity []int64) (api.Code, int) {
	switch at := m.first(capacity); {
	case at >= 0:
		return api.BadAmount, at
	case m.index(id) >= 0:
		return api.Duplicate, 0
	case len(m.nodes) == m.size:
		return api.Full, 0
	}
	m.nodes = append(m.nodes, usage{id, capacity, make([]int64, m.dims)})
	return 0, 0
}

// change adds a vector some times to the usage of a node (-1 times to subtract it), or returns the code of the error.
func (m *model) change(id int, v []int64, times int64) api.Code {
	i := m.index(id)
	if i < 0 {
		return api.Unknown
	}
	if m.first(v) >= 0 {
		return api.BadAmount
	}
	n := m.nodes[i]
	after := slices.Clone(n.used)
	for i, x := range v {
		after[i] += times * x
		if after[i] < 0 || after[i] > n.capacity[i] {
			return api.Overflow
		}
	}
	m.nodes[i].used = after
	return 0
}

// P12.1 to P12.5: in many runs of calls, the store answers as the model does.
func TestModel(t *testing.T) {
	next, met := numbers(), map[api.Code]int{}
	for range 300 {
		dims, size := 1+next(3), next(8)
		s, m := New(dims, size), &model{dims: dims, size: size}
		for range 60 {
			id := next(10) - 2
			switch call := next(10); {
			case call < 3:
				v := some(next, dims, 20)
				code, at := m.add(id, v)
				if err := add(s, id, slices.Clone(v)...); !isFault(err, code, at) {
					t.Fatal("add:", id, v, err, "want", code, at)
				}
				met[code]++
			case call == 3:
				n, err := s.Drop(id)
				if i := m.index(id); i < 0 {
					if !isNode(n, 0, nil) || !isFault(err, api.Unknown, 0) {
						t.Fatal("drop:", id, n, err)
					}
				} else if !isNode(n, id, m.nodes[i].capacity) || err != nil {
					t.Fatal("drop:", id, n, err)
				} else {
					m.nodes = slices.Delete(m.nodes, i, i+1)
				}
			case call < 8:
				v := some(next, dims, 12)
				code := m.change(id, v, 1)
				if err := s.Hold(id, v); !isFault(err, code, 0) {
					t.Fatal("hold:", id, v, err, "want", code)
				}
				met[code]++
			default:
				v := some(next, dims, 12)
				code := m.change(id, v, -1)
				if err := s.Release(id, v); !isFault(err, code, 0) {
					t.Fatal("release:", id, v, err, "want", code)
				}
				met[code]++
			}
			if holds(t, s, dims, m.nodes...); t.Failed() {
				t.FailNow()
			}
		}
	}
	for _, code := range []api.Code{0, api.BadAmount, api.Duplicate, api.Full, api.Unknown, api.Overflow} {
		if met[code] < 100 {
			t.Error(code, "was met", met[code], "times")
		}
	}
}

// P12.5: the usage is from 0 to the capacity in each element, whatever is held and released.
func TestUsageIsInRange(t *testing.T) {
	next := numbers()
	s, least, greatest := of(t, 2, 1, usage{1, vector(17, 5), vector(0, 0)}), vector(17, 5), vector(0, 0)
	for range 5000 {
		change := s.Hold
		if next(2) == 0 {
			change = s.Release
		}
		change(1, some(next, 2, 9))
		used, free := s.Used(1), s.Free(1)
		for i, x := range vector(17, 5) {
			if used[i] < 0 || used[i] > x || used[i]+free[i] != x {
				t.Fatal(used, free)
			}
			least[i], greatest[i] = min(least[i], used[i]), max(greatest[i], used[i])
		}
	}
	// All of the range is met.
	if !slices.Equal(least, vector(0, 0)) || !slices.Equal(greatest, vector(17, 5)) {
		t.Error(least, greatest)
	}
}

// P12.5: Release inverts Hold, in whatever order several vectors are released.
func TestReleaseInvertsHold(t *testing.T) {
	next := numbers()
	for range 300 {
		n := usage{1, vector(40, 60), vector(int64(next(9)), int64(next(9)))}
		s := of(t, 2, 1, n)
		var held [][]int64
		for range 12 {
			if v := some(next, 2, 15); s.Hold(1, v) == nil {
				held = append(held, v)
			}
		}
		for len(held) > 0 {
			i := next(len(held))
			before := s.Used(1)
			if err := s.Release(1, held[i]); err != nil {
				t.Fatal(held[i], err)
			}
			if err := s.Hold(1, held[i]); err != nil || !slices.Equal(s.Used(1), before) {
				t.Fatal(held[i], err, s.Used(1), before)
			}
			s.Release(1, held[i])
			held = slices.Delete(held, i, i+1)
		}
		if holds(t, s, 2, n); t.Failed() {
			t.FailNow()
		}
	}
}

// On a nil Store, the methods with an error return the api.Fault with the code Unknown and the At 0, and the other methods zero values.
func TestNil(t *testing.T) {
	var s *Store
	for _, id := range []int{0, 1, -1, math.MaxInt} {
		lacks(t, s, id)
		for _, capacity := range [][]int64{nil, {1}, {-1}, {1, -1}} {
			if err := add(s, id, capacity...); !isFault(err, api.Unknown, 0) {
				t.Error(id, capacity, err)
			}
		}
	}
	if len(s.IDs()) != 0 || s.Dims() != 0 {
		t.Error(s.IDs(), s.Dims())
	}
}
