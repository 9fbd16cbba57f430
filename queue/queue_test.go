package queue

import (
	"math"
	"reflect"
	"slices"
	"testing"

	"hammock/api"
	"hammock/rank"
)

// entry returns a pod with the fields of its order, and a request that tells its ID.
func entry(id, priority, arrival int) api.Pod {
	return api.Pod{ID: id, Priority: priority, Arrival: arrival, Request: []int64{int64(id), 7}, Phase: api.Pending, Node: api.None, Deadline: api.None}
}

// of returns a queue with pods, which must have different IDs.
func of(t *testing.T, l ...api.Pod) *Queue {
	t.Helper()
	q := New()
	if got := q.Push(l...); got != len(l) {
		t.Fatal("pushed", got, "of", len(l))
	}
	return q
}

// holds checks that a queue has exactly these IDs in order, by every method that does not change it.
func holds(t *testing.T, q *Queue, want ...int) {
	t.Helper()
	var got []int
	for _, p := range q.All() {
		got = append(got, p.ID)
		if !q.Has(p.ID) {
			t.Error("has not", p.ID)
		}
	}
	if !slices.Equal(got, want) || q.Len() != len(want) {
		t.Error("got", got, "with the length", q.Len(), "want", want)
	}
	first, ok := q.Peek()
	if ok != (len(want) > 0) || ok && first.ID != want[0] || !ok && !reflect.DeepEqual(first, api.Pod{}) {
		t.Error("peek:", first, ok)
	}
}

// drain returns the IDs that Pop yields until the queue is empty.
func drain(q *Queue) []int {
	var l []int
	for p, ok := q.Pop(); ok; p, ok = q.Pop() {
		l = append(l, p.ID)
	}
	return l
}

// orders are lists of pods, with their IDs in order.
func orders() []struct {
	l    []api.Pod
	want []int
} {
	return []struct {
		l    []api.Pod
		want []int
	}{
		{nil, nil},
		{[]api.Pod{entry(4, 1, 0)}, []int{4}},
		{[]api.Pod{{}}, []int{0}},
		// The greater priority comes first, whatever the arrivals and IDs are.
		{[]api.Pod{entry(1, 1, 0), entry(2, 5, 1)}, []int{2, 1}},
		{[]api.Pod{entry(1, -5, 0), entry(2, 0, 2), entry(3, -4, 1)}, []int{2, 3, 1}},
		{[]api.Pod{entry(1, -api.MaxPriority, 0), entry(2, api.MaxPriority, 9)}, []int{2, 1}},
		{[]api.Pod{entry(1, math.MinInt, 0), entry(2, math.MaxInt, 9), entry(3, 0, 0)}, []int{2, 3, 1}},
		// Then the lesser arrival, whatever the IDs are.
		{[]api.Pod{entry(1, 5, 3), entry(2, 5, 1), entry(3, 5, 2)}, []int{2, 3, 1}},
		{[]api.Pod{entry(1, 5, math.MaxInt), entry(2, 5, math.MinInt)}, []int{2, 1}},
		// Then the lesser ID, which may be any number.
		{[]api.Pod{entry(7, 5, 1), entry(6, 5, 1), entry(-1, 5, 1), entry(0, 5, 1)}, []int{-1, 0, 6, 7}},
		{[]api.Pod{entry(math.MaxInt, 5, 1), entry(math.MinInt, 5, 1)}, []int{math.MinInt, math.MaxInt}},
		// All of them.
		{[]api.Pod{entry(3, 2, 4), entry(1, 2, 4), entry(5, 9, 8), entry(4, 2, 3), entry(2, 9, 8)}, []int{2, 5, 4, 1, 3}},
	}
}

// P7.1
func TestNewIsEmpty(t *testing.T) {
	q := New()
	if q == nil {
		t.Fatal("no queue")
	}
	holds(t, q)
	other := New()
	q.Push(entry(1, 1, 0))
	holds(t, other)
}

// P7.1: how many pods are added, and which ones.
func TestPush(t *testing.T) {
	q := New()
	for i, x := range []struct {
		l    []api.Pod
		n    int
		want []int
	}{
		{nil, 0, nil},
		{[]api.Pod{}, 0, nil},
		{[]api.Pod{entry(3, 1, 0)}, 1, []int{3}},
		{[]api.Pod{entry(3, 9, 0)}, 0, []int{3}},
		{[]api.Pod{entry(4, 2, 1), entry(5, 1, 2)}, 2, []int{4, 3, 5}},
		{[]api.Pod{entry(5, 9, 0), entry(3, 9, 0), entry(4, 9, 0)}, 0, []int{4, 3, 5}},
		// An ID that was added just before.
		{[]api.Pod{entry(6, 3, 3), entry(6, 9, 4), entry(6, 3, 3)}, 1, []int{6, 4, 3, 5}},
		// Pods before and after one that is not added.
		{[]api.Pod{entry(0, 0, 5), entry(4, 9, 0), entry(-8, 7, 6)}, 2, []int{-8, 6, 4, 3, 5, 0}},
	} {
		if got := q.Push(x.l...); got != x.n {
			t.Error(i, got, x.n)
		}
		holds(t, q, x.want...)
	}
}

// P7.1: of several pods with an ID, the first one is kept.
func TestPushKeepsFirst(t *testing.T) {
	first, second := entry(1, 5, 3), entry(1, 9, 0)
	first.Grace, second.Grace = 4, 6
	q := New()
	if n := q.Push(first, second) + q.Push(second); n != 1 {
		t.Error(n)
	}
	if got, ok := q.Pop(); !ok || !reflect.DeepEqual(got, first) {
		t.Error(got, ok)
	}
	holds(t, q)
}

// P7.1, P7.2 and P7.3: an ID that has left may be added again.
func TestPushAgain(t *testing.T) {
	q := of(t, entry(1, 5, 0), entry(2, 4, 1), entry(3, 3, 2))
	q.Pop()
	holds(t, q, 2, 3)
	if n := q.Push(entry(1, 1, 0)); n != 1 {
		t.Error(n)
	}
	holds(t, q, 2, 3, 1)
	q.Remove(3)
	if n := q.Push(entry(2, 9, 0), entry(3, 9, 2)); n != 1 {
		t.Error(n)
	}
	holds(t, q, 3, 2, 1)
}

// P7.2
func TestPop(t *testing.T) {
	for i, x := range orders() {
		q := of(t, x.l...)
		for k, id := range x.want {
			holds(t, q, x.want[k:]...)
			seen, is := q.Peek()
			again, _ := q.Peek()
			got, ok := q.Pop()
			if !is || !ok || got.ID != id || !reflect.DeepEqual(got, seen) || !reflect.DeepEqual(got, again) {
				t.Error(i, k, got, ok, seen, is, again)
			}
			if q.Has(id) {
				t.Error(i, k, "still has", id)
			}
		}
		for range 2 {
			if got, ok := q.Pop(); ok || !reflect.DeepEqual(got, api.Pod{}) {
				t.Error(i, got, ok)
			}
			holds(t, q)
		}
	}
}

// P7.3: each pod is removed from each queue.
func TestRemove(t *testing.T) {
	for i, x := range orders() {
		for _, p := range x.l {
			q := of(t, x.l...)
			got, ok := q.Remove(p.ID)
			if !ok || !reflect.DeepEqual(got, p) {
				t.Error(i, got, ok, p)
			}
			if q.Has(p.ID) {
				t.Error(i, "still has", p.ID)
			}
			rest := slices.DeleteFunc(slices.Clone(x.want), func(id int) bool { return id == p.ID })
			holds(t, q, rest...)
			if got, ok := q.Remove(p.ID); ok || !reflect.DeepEqual(got, api.Pod{}) {
				t.Error(i, "again:", got, ok)
			}
			if got := drain(q); !slices.Equal(got, rest) {
				t.Error(i, got, rest)
			}
		}
	}
}

// P7.3: an ID that no pod has.
func TestRemoveNothing(t *testing.T) {
	for _, l := range [][]api.Pod{nil, {entry(1, 5, 9), entry(3, 2, 8)}} {
		q := of(t, l...)
		want := q.All()
		for _, id := range []int{0, 2, 4, 5, 7, 8, 9, -1, -3, math.MinInt, math.MaxInt} {
			if got, ok := q.Remove(id); ok || q.Has(id) || !reflect.DeepEqual(got, api.Pod{}) {
				t.Error(id, got, ok, q.Has(id))
			}
			if got := q.All(); !reflect.DeepEqual(got, want) || q.Len() != len(l) {
				t.Error(id, got, want, q.Len())
			}
		}
	}
}

// P7.3: the pods that stay are in order, whichever one is removed.
func TestRemoveEach(t *testing.T) {
	// A heap keeps these in the order in which they are pushed: the last one must go up in the place of some that are removed.
	var uneven []api.Pod
	for i, priority := range []int{100, 50, 90, 40, 30, 80, 75, 20, 19, 18, 17, 78, 77, 73, 72} {
		uneven = append(uneven, entry(i, priority, i))
	}
	for _, l := range [][]api.Pod{uneven, scattered(64)} {
		for _, p := range l {
			q := of(t, l...)
			if got, ok := q.Remove(p.ID); !ok || got.ID != p.ID {
				t.Fatal(p.ID, got, ok)
			}
			for _, next := range rank.Sort(l) {
				if next.ID == p.ID {
					continue
				}
				if got, ok := q.Pop(); !ok || got.ID != next.ID {
					t.Fatal(p.ID, got.ID, ok, next.ID)
				}
			}
			holds(t, q)
		}
	}
}

// P7.4: All and Len do not depend on the order in which the pods were pushed, and change nothing.
func TestAll(t *testing.T) {
	for i, x := range orders() {
		for turn := range x.l {
			q := of(t, slices.Concat(x.l[turn:], x.l[:turn])...)
			holds(t, q, x.want...)
			holds(t, q, x.want...)
			if got := drain(q); !slices.Equal(got, x.want) {
				t.Error(i, got, x.want)
			}
			if len(q.All()) != 0 || q.Len() != 0 {
				t.Error(i, q.All(), q.Len())
			}
		}
	}
}

// P7.1 to P7.4: each field is returned as it was given, by each method.
func TestFieldsStay(t *testing.T) {
	full := api.Pod{ID: -7, Priority: -3, Preempts: true, Grace: -9, Request: []int64{math.MinInt64, 0, math.MaxInt64}, Arrival: 11, Phase: api.Gone, Node: 13, Deadline: 17}
	odd := api.Pod{ID: math.MaxInt, Priority: -4, Grace: math.MaxInt, Arrival: -2, Phase: 99, Node: -5, Deadline: math.MinInt}
	want := []api.Pod{full, odd}
	q := of(t, odd, full)
	if got := q.All(); !reflect.DeepEqual(got, want) {
		t.Error(got)
	}
	if got, ok := q.Peek(); !ok || !reflect.DeepEqual(got, full) {
		t.Error(got, ok)
	}
	if got, ok := q.Remove(odd.ID); !ok || !reflect.DeepEqual(got, odd) {
		t.Error(got, ok)
	}
	if got, ok := q.Pop(); !ok || !reflect.DeepEqual(got, full) {
		t.Error(got, ok)
	}
}

// scattered returns n pods with the IDs from 0 on, in an order that follows no key.
func scattered(n int) []api.Pod {
	next := numbers()
	l := make([]api.Pod, n)
	for i := range l {
		l[i] = entry(i, next(8)-4, next(16))
	}
	return l
}

// numbers returns a function whose results are from 0 to less than the argument, and the same in each test.
func numbers() func(n int) int {
	x := uint64(7)
	return func(n int) int {
		x = x*6364136223846793005 + 1442695040888963407
		return int(x >> 33 % uint64(n))
	}
}

// P7.5
func TestPopYieldsOrder(t *testing.T) {
	for _, n := range []int{2, 3, 7, 8, 100, 5000} {
		l := scattered(n)
		q := of(t, l...)
		for i, want := range rank.Sort(l) {
			if got, ok := q.Pop(); !ok || !reflect.DeepEqual(got, want) {
				t.Fatal(n, i, got, ok, want)
			}
		}
		holds(t, q)
	}
}

// P7.5: as many pods as a cluster may have.
func TestMany(t *testing.T) {
	q := of(t, scattered(api.MaxPods)...)
	last, ok := q.Pop()
	for n := api.MaxPods - 1; n > 0; n-- {
		p, more := q.Pop()
		if !ok || !more || !rank.Before(last, p) || q.Len() != n-1 {
			t.Fatal(n, last, p, more, q.Len())
		}
		last = p
	}
	holds(t, q)
}

// model is a queue that is nothing but a list.
type model []api.Pod

// add adds pods and returns how many were added.
func (m *model) add(l ...api.Pod) int {
	n := len(*m)
	for _, p := range l {
		if !slices.ContainsFunc(*m, func(x api.Pod) bool { return x.ID == p.ID }) {
			*m = append(*m, p)
		}
	}
	*m = rank.Sort(*m)
	return len(*m) - n
}

// remove removes the pod with an ID.
func (m *model) remove(id int) (api.Pod, bool) {
	for i, p := range *m {
		if p.ID == id {
			*m = slices.Delete(*m, i, i+1)
			return p, true
		}
	}
	return api.Pod{}, false
}

// pop removes the first pod.
func (m *model) pop() (api.Pod, bool) {
	if len(*m) == 0 {
		return api.Pod{}, false
	}
	return m.remove((*m)[0].ID)
}

// P7.1 to P7.5: in a long run of calls, the queue answers as the model does.
func TestModel(t *testing.T) {
	q, m, next := New(), &model{}, numbers()
	for i := range 20000 {
		switch next(5) {
		case 0, 1:
			var l []api.Pod
			for range next(4) {
				l = append(l, entry(next(60), next(4), next(6)))
			}
			if got, want := q.Push(l...), m.add(l...); got != want {
				t.Fatal(i, "push:", got, want)
			}
		case 2:
			got, ok := q.Pop()
			if want, is := m.pop(); ok != is || !reflect.DeepEqual(got, want) {
				t.Fatal(i, "pop:", got, ok, want, is)
			}
		default:
			id := next(60)
			got, ok := q.Remove(id)
			if want, is := m.remove(id); ok != is || !reflect.DeepEqual(got, want) {
				t.Fatal(i, "remove:", got, ok, want, is)
			}
		}
		if all := q.All(); q.Len() != len(*m) || len(all) != len(*m) || len(all) > 0 && !reflect.DeepEqual(all, []api.Pod(*m)) {
			t.Fatal(i, q.Len(), all, *m)
		}
	}
}

// P7.1: the queue keeps copies, and changes neither the pods nor what lies behind them.
func TestPushCopies(t *testing.T) {
	request := []int64{1, 2, 3, 4}
	l := []api.Pod{{ID: 1, Request: request[:2]}, {ID: 2, Priority: 5, Request: request[:0]}, {ID: 3, Priority: 9, Request: request}}
	q := New()
	if n := q.Push(l[:2]...); n != 2 {
		t.Error(n)
	}
	if l[0].ID != 1 || l[1].ID != 2 || l[2].ID != 3 || !slices.Equal(request, []int64{1, 2, 3, 4}) {
		t.Error(l, request)
	}
	request[0], request[2], l[0].ID, l[1].Priority = 8, 9, 7, -1
	holds(t, q, 2, 1)
	for _, want := range [][]int64{nil, {1, 2}} {
		got, ok := q.Pop()
		if !ok || !slices.Equal(got.Request, want) {
			t.Error(got, ok, want)
		}
		for i := range got.Request[:cap(got.Request)] {
			got.Request[:cap(got.Request)][i] = 50
		}
	}
	if !slices.Equal(request, []int64{8, 2, 9, 4}) {
		t.Error(request)
	}
}

// P7.2 and P7.4: what Peek and All return shares no memory with the queue.
func TestResultsAreCopies(t *testing.T) {
	first, second := entry(1, 5, 0), entry(2, 4, 1)
	q := of(t, first, second)
	for range 2 {
		all := q.All()
		seen, _ := q.Peek()
		seen.Request[0], all[0].Request[1], all[1].Request[0], all[1].Priority = 50, 60, 70, 80
		if got, ok := q.Peek(); !ok || !reflect.DeepEqual(got, entry(1, 5, 0)) || all[0].Request[0] != 1 || seen.Request[1] != 7 {
			t.Error(got, ok, all, seen)
		}
		if got := q.All(); !reflect.DeepEqual(got, []api.Pod{entry(1, 5, 0), entry(2, 4, 1)}) {
			t.Error(got)
		}
	}
}

// P7.2 and P7.3: a pod that has left does not change with the queue, nor the queue with it.
func TestLeftPodsAreApart(t *testing.T) {
	q := of(t, entry(1, 5, 0), entry(2, 4, 1), entry(3, 3, 2))
	popped, _ := q.Pop()
	removed, _ := q.Remove(3)
	q.Push(popped, removed)
	popped.Request[0], removed.Request[0] = 50, 60
	if got := q.All(); !reflect.DeepEqual(got, []api.Pod{entry(1, 5, 0), entry(2, 4, 1), entry(3, 3, 2)}) {
		t.Error(got)
	}
	drain(q)
	q.Push(entry(8, 1, 0), entry(9, 2, 1))
	if popped.ID != 1 || removed.ID != 3 || !slices.Equal(popped.Request, []int64{50, 7}) || !slices.Equal(removed.Request, []int64{60, 7}) {
		t.Error(popped, removed)
	}
}

// All methods return zero values for nil.
func TestNil(t *testing.T) {
	var q *Queue
	if q.Push() != 0 || q.Push(entry(1, 1, 0), entry(2, 1, 1)) != 0 || q.Has(1) || q.Has(0) || q.Len() != 0 || len(q.All()) != 0 {
		t.Error(q.Push(entry(1, 1, 0)), q.Has(1), q.Len(), q.All())
	}
	for name, f := range map[string]func() (api.Pod, bool){
		"Pop":    q.Pop,
		"Peek":   q.Peek,
		"Remove": func() (api.Pod, bool) { return q.Remove(1) },
	} {
		if got, ok := f(); ok || !reflect.DeepEqual(got, api.Pod{}) {
			t.Error(name, got, ok)
		}
	}
}
