package rank

import (
	"math"
	"slices"
	"testing"

	"hammock/api"
)

const (
	top = math.MaxInt
	low = math.MinInt
)

// pod returns a pod with the fields of its order, and fields that do not matter for it.
func pod(priority, arrival, id int) api.Pod {
	return api.Pod{ID: id, Priority: priority, Preempts: true, Grace: 3, Request: []int64{7, int64(id)}, Arrival: arrival, Phase: api.Bound, Node: 5, Deadline: api.None}
}

// pods returns pods with priorities, in the order of their arrivals and IDs.
func pods(priorities ...int) []api.Pod {
	var l []api.Pod
	for i, priority := range priorities {
		l = append(l, pod(priority, i, i+1))
	}
	return l
}

// same reports whether two pods are the same in each field.
func same(a, b api.Pod) bool {
	r, s := a.Request, b.Request
	return slices.Equal(r, s) && a.ID == b.ID && a.Priority == b.Priority && a.Preempts == b.Preempts && a.Grace == b.Grace && a.Arrival == b.Arrival && a.Phase == b.Phase && a.Node == b.Node && a.Deadline == b.Deadline
}

// copies returns pods that share no memory with those of l.
func copies(l []api.Pod) []api.Pod {
	var out []api.Pod
	for _, p := range l {
		p.Request = slices.Clone(p.Request)
		out = append(out, p)
	}
	return out
}

// ids returns the IDs of pods.
func ids(l []api.Pod) []int {
	var out []int
	for _, p := range l {
		out = append(out, p.ID)
	}
	return out
}

// before is the definition, written out.
func before(a, b api.Pod) bool {
	if a.Priority != b.Priority {
		return a.Priority > b.Priority
	}
	if a.Arrival != b.Arrival {
		return a.Arrival < b.Arrival
	}
	return a.ID < b.ID
}

// grid returns pods with all combinations of some values of the fields of the order.
func grid() []api.Pod {
	values := []int{low, -api.MaxPriority, -1, 0, 1, api.MaxPriority, top}
	var l []api.Pod
	for _, priority := range values {
		for _, arrival := range values {
			for _, id := range values {
				l = append(l, pod(priority, arrival, id))
			}
		}
	}
	return l
}

// mixed returns n pods with different IDs, in an order that follows no key.
func mixed(n int) []api.Pod {
	var l []api.Pod
	x := uint32(1)
	for i := range n {
		x = x*1664525 + 1013904223
		l = append(l, pod(int(x>>24%8)-4, int(x>>16%16), i))
	}
	return l
}

// P6.1
func TestCompare(t *testing.T) {
	for i, x := range []struct {
		a, b api.Pod
		want int
	}{
		// The greater priority, whatever the arrivals and IDs are.
		{pod(5, 9, 9), pod(4, 1, 1), -1},
		{pod(-4, 9, 9), pod(-5, 1, 1), -1},
		{pod(0, 1, 1), pod(1, 9, 9), 1},
		{pod(api.MaxPriority, 2, 2), pod(-api.MaxPriority, 1, 1), -1},
		{pod(top, 2, 2), pod(low, 1, 1), -1},
		{pod(0, 2, 2), pod(low, 1, 1), -1},
		// The lesser arrival, whatever the IDs are.
		{pod(5, 1, 9), pod(5, 2, 1), -1},
		{pod(5, 0, 9), pod(5, -1, 1), 1},
		{pod(5, low, 9), pod(5, top, 1), -1},
		// The lesser ID.
		{pod(5, 1, 1), pod(5, 1, 2), -1},
		{pod(5, 1, 0), pod(5, 1, -1), 1},
		{pod(5, 1, low), pod(5, 1, top), -1},
		// No difference.
		{pod(5, 1, 1), pod(5, 1, 1), 0},
		{api.Pod{}, api.Pod{}, 0},
		{api.Pod{Request: []int64{1}}, api.Pod{Preempts: true, Grace: -1, Request: []int64{2, 3}, Phase: 9, Node: 7, Deadline: low}, 0},
	} {
		if got := Compare(x.a, x.b); got != x.want {
			t.Error(i, got, x.want)
		}
		if got := Compare(x.b, x.a); got != -x.want {
			t.Error(i, "reversed:", got, -x.want)
		}
		if got := Before(x.a, x.b); got != (x.want < 0) {
			t.Error(i, "before:", got)
		}
		if got := Before(x.b, x.a); got != (x.want > 0) {
			t.Error(i, "before, reversed:", got)
		}
	}
}

// P6.1: the fields other than those of the order do not matter.
func TestCompareOtherFields(t *testing.T) {
	a := pod(5, 1, 1)
	for i, change := range []func(p *api.Pod){
		func(p *api.Pod) { p.Preempts = !p.Preempts },
		func(p *api.Pod) { p.Grace = 0 },
		func(p *api.Pod) { p.Request = nil },
		func(p *api.Pod) { p.Request = []int64{low, 1, 2} },
		func(p *api.Pod) { p.Phase = api.Gone },
		func(p *api.Pod) { p.Node = api.None },
		func(p *api.Pod) { p.Deadline = api.MaxClock },
	} {
		b := pod(5, 1, 1)
		change(&b)
		if Compare(a, b) != 0 || Compare(b, a) != 0 || Before(a, b) || Before(b, a) {
			t.Error(i, Compare(a, b), Compare(b, a))
		}
	}
}

// P6.1
func TestCompareGrid(t *testing.T) {
	l := grid()
	for _, a := range l {
		for _, b := range l {
			want := 0
			if before(a, b) {
				want = -1
			} else if before(b, a) {
				want = 1
			}
			if got := Compare(a, b); got != want || Before(a, b) != (want < 0) {
				t.Fatal(a, b, got, want, Before(a, b))
			}
		}
	}
}

// P6.2
func TestSort(t *testing.T) {
	for i, x := range []struct {
		l    []api.Pod
		want []int
	}{
		{nil, nil},
		{[]api.Pod{}, nil},
		{pods(3), []int{1}},
		{pods(1, 5, 5), []int{2, 3, 1}},
		{pods(5, 5, 1), []int{1, 2, 3}},
		{pods(-1, -2, 0), []int{3, 1, 2}},
		{pods(low, 0, top, -1, 1), []int{3, 5, 2, 4, 1}},
		{[]api.Pod{pod(1, 2, 1), pod(1, 1, 2), pod(1, 0, 3)}, []int{3, 2, 1}},
		{[]api.Pod{pod(1, 0, 3), pod(1, 0, 1), pod(1, 0, 2)}, []int{1, 2, 3}},
		{[]api.Pod{pod(1, 0, 7), pod(2, 9, 8), pod(2, 8, 9), pod(1, 0, 6)}, []int{9, 8, 6, 7}},
	} {
		if got := ids(Sort(x.l)); !slices.Equal(got, x.want) {
			t.Error(i, got, x.want)
		}
	}
}

// P6.2: each pod is returned once, with all its fields.
func TestSortKeepsPods(t *testing.T) {
	l := mixed(300)
	sorted := Sort(l)
	if len(sorted) != len(l) {
		t.Fatal(len(sorted))
	}
	seen := map[int]bool{}
	for i, p := range sorted {
		if i > 0 && !before(sorted[i-1], p) {
			t.Fatal("not in order at", i)
		}
		if !same(p, l[p.ID]) || seen[p.ID] {
			t.Fatal("not the pod that was given:", p)
		}
		seen[p.ID] = true
	}
}

// P6.2: pods that compare as 0 keep their order, also in a long list.
func TestSortIsStable(t *testing.T) {
	var l []api.Pod
	for i := range 1000 {
		p := pod(i%3, i%2, 7)
		p.Grace = i
		l = append(l, p)
	}
	sorted := Sort(l)
	for i := 1; i < len(sorted); i++ {
		a, b := sorted[i-1], sorted[i]
		if before(b, a) || !before(a, b) && a.Grace >= b.Grace {
			t.Fatal(i, a, b)
		}
	}
}

// P6.2
func TestSortMany(t *testing.T) {
	l := mixed(api.MaxPods)
	sorted := Sort(l)
	if len(sorted) != len(l) || !slices.IsSortedFunc(sorted, Compare) {
		t.Error(len(sorted))
	}
}

// P6.2
func TestLeast(t *testing.T) {
	for i, x := range []struct {
		l    []api.Pod
		want int
	}{
		{pods(3), 0},
		{pods(-3), 0},
		{pods(low), 0},
		{pods(1, 5, 5), 1},
		{pods(5, 5, 1), 0},
		{pods(1, 2, 3), 2},
		{pods(-7, low, -6, low), 2},
		{pods(0, top, low), 1},
		{[]api.Pod{pod(1, 2, 1), pod(1, 1, 2), pod(1, 0, 3), pod(0, -1, 0)}, 2},
		{[]api.Pod{pod(1, 0, 3), pod(1, 0, 1), pod(1, 0, 2)}, 1},
		// The first one of those that compare as 0.
		{[]api.Pod{pod(1, 0, 3), pod(1, 0, 3), pod(1, 0, 3)}, 0},
		{[]api.Pod{pod(0, 0, 1), pod(1, 0, 3), pod(1, 0, 4), pod(1, 0, 3)}, 1},
	} {
		if got, ok := Least(x.l); got != x.want || !ok {
			t.Error(i, got, ok, x.want)
		}
	}
	for _, l := range [][]api.Pod{nil, {}, pods(1, 2)[:0]} {
		if got, ok := Least(l); got != 0 || ok {
			t.Error(got, ok)
		}
	}
}

// P6.2: no pod comes before the one at the index, and some pod comes before each one that is earlier in the list.
func TestLeastOfMixed(t *testing.T) {
	l := slices.Concat(mixed(60), mixed(60))
	for n := 1; n <= len(l); n++ {
		least, ok := Least(l[:n])
		if !ok {
			t.Fatal(n)
		}
		for i, p := range l[:n] {
			if before(p, l[least]) || i < least && !before(l[least], p) {
				t.Fatal(n, least, i)
			}
		}
	}
}

// P6.3
func TestLower(t *testing.T) {
	for i, x := range []struct {
		l        []api.Pod
		priority int
		want     []int
	}{
		{nil, 5, nil},
		{[]api.Pod{}, 5, nil},
		{pods(4, 5, 6, 3, 5, 4), 5, []int{1, 4, 6}},
		{pods(4, 5, 6), 4, nil},
		{pods(4, 5, 6), 7, []int{1, 2, 3}},
		{pods(6, 4, 5), 6, []int{2, 3}},
		{pods(-1, 0, 1, -2), 0, []int{1, 4}},
		{pods(-1, 0, 1, -2), -1, []int{4}},
		{pods(low, 0, top), low, nil},
		{pods(low, 0, top), low + 1, []int{1}},
		{pods(top, low, 0), top, []int{2, 3}},
		{pods(-api.MaxPriority, api.MaxPriority), api.MaxPriority, []int{1}},
		// The given order, not that of pods.
		{[]api.Pod{pod(1, 9, 9), pod(2, 8, 8), pod(1, 1, 7), pod(3, 0, 1)}, 3, []int{9, 8, 7}},
		// Pods that are the same.
		{[]api.Pod{pod(1, 1, 1), pod(1, 1, 1)}, 2, []int{1, 1}},
	} {
		got := Lower(x.l, x.priority)
		if !slices.Equal(ids(got), x.want) {
			t.Error(i, ids(got), x.want)
		}
	}
}

// P6.3: pods keep all their fields.
func TestLowerKeepsPods(t *testing.T) {
	l := mixed(100)
	for priority := -5; priority <= 5; priority++ {
		got := Lower(l, priority)
		var want []api.Pod
		for _, p := range l {
			if p.Priority < priority {
				want = append(want, p)
			}
		}
		if !slices.EqualFunc(got, want, same) {
			t.Error(priority, ids(got), ids(want))
		}
	}
}

// P6.4
func TestSums(t *testing.T) {
	for i, x := range []struct {
		l            []api.Pod
		highest, sum int
	}{
		{nil, 0, 0},
		{[]api.Pod{}, 0, 0},
		{pods(3), 3, 3},
		{pods(0), 0, 0},
		{pods(-3), -3, -3},
		{pods(3, 3), 3, 6},
		{pods(1, 5, 2), 5, 8},
		{pods(-4, -2, -9), -2, -15},
		{pods(-4, 0, 3, -9), 3, -10},
		{pods(7, -7), 7, 0},
		{pods(-7, 7), 7, 0},
		{pods(api.MaxPriority, api.MaxPriority, -api.MaxPriority), api.MaxPriority, api.MaxPriority},
		{pods(-api.MaxPriority), -api.MaxPriority, -api.MaxPriority},
	} {
		if highest, sum := Sums(x.l); highest != x.highest || sum != x.sum {
			t.Error(i, highest, sum, x.highest, x.sum)
		}
	}
}

// P6.4: the greatest number of pods, with the greatest and the least priority.
func TestSumsAtLimits(t *testing.T) {
	for _, priority := range []int{api.MaxPriority, -api.MaxPriority} {
		l := slices.Repeat([]api.Pod{{Priority: priority}}, api.MaxPods)
		if highest, sum := Sums(l); highest != priority || sum != priority*api.MaxPods {
			t.Error(priority, highest, sum)
		}
	}
}

// P6.5: of two pods with different IDs, one comes before the other.
func TestOrderIsTotal(t *testing.T) {
	var l []api.Pod
	for i := range 27 {
		// The list goes up in ID only, and meets each combination of the other keys several times.
		l = append(l, pod(i%3, i/3%2, i))
	}
	for i, a := range l {
		for k, b := range l {
			if (i != k) != (Before(a, b) != Before(b, a)) || Compare(a, b) != -Compare(b, a) {
				t.Fatal(i, k)
			}
			for _, c := range l {
				if Before(a, b) && Before(b, c) && !Before(a, c) {
					t.Fatal("not transitive:", a, b, c)
				}
			}
		}
	}
}

// P6.5: with different IDs, the order does not depend on how the pods are given, and the first pod is the least one.
func TestSortForgetsOrder(t *testing.T) {
	l := mixed(50)
	want := Sort(l)
	for i := range l {
		turned := slices.Concat(l[i:], l[:i])
		if i%2 == 1 {
			slices.Reverse(turned)
		}
		if got := Sort(turned); !slices.EqualFunc(got, want, same) {
			t.Fatal(i, ids(got), ids(want))
		}
		if least, ok := Least(turned); !ok || !same(turned[least], want[0]) {
			t.Fatal(i, least, ok)
		}
	}
}

// P6.5: neither the list nor what lies behind it, nor a request or what lies behind it, is changed.
func TestArgumentsStay(t *testing.T) {
	all := mixed(20)
	for i := range all {
		all[i].Request = append(make([]int64, 0, 8), all[i].Request...)
	}
	want := copies(all)
	l := all[:15]
	Sort(l)
	Least(l)
	Lower(l, 2)
	Sums(l)
	Compare(l[0], l[1])
	Before(l[0], l[1])
	if !slices.EqualFunc(all, want, same) {
		t.Error(ids(all), ids(want))
	}
	for i, p := range all {
		if !slices.Equal(p.Request[:8][2:], make([]int64, 6)) {
			t.Error(i, p.Request[:8])
		}
	}
}

// P6.2, P6.3 and P6.5: results share no memory with the list, nor do the requests in them with each other.
func TestResultsShareNothing(t *testing.T) {
	request := []int64{1, 2, 3}
	for name, f := range map[string]func(l []api.Pod) []api.Pod{
		"Sort":  Sort,
		"Lower": func(l []api.Pod) []api.Pod { return Lower(l, 9) },
	} {
		l := []api.Pod{{ID: 1, Request: request}, {ID: 2, Request: request[:2]}, {ID: 3, Request: request[:0]}}
		got := f(l)
		if !slices.Equal(ids(got), []int{1, 2, 3}) {
			t.Fatal(name, ids(got))
		}
		got[0].Request[0] = 50
		got[1].Request[1] = 60
		_ = append(got[2].Request, 70)
		got[2].ID = 8
		if !slices.Equal(request, []int64{1, 2, 3}) || !slices.Equal(ids(l), []int{1, 2, 3}) {
			t.Error(name, "changes the list:", request, ids(l))
		}
		if !slices.Equal(got[0].Request, []int64{50, 2, 3}) || !slices.Equal(got[1].Request, []int64{1, 60}) || len(got[2].Request) != 0 {
			t.Error(name, "shares requests:", got)
		}
		l[0] = api.Pod{}
		request[0] = 1
		if got[0].ID != 1 {
			t.Error(name, "shares the list")
		}
	}
}
