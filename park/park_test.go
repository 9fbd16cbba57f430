package park

import (
	"math"
	"reflect"
	"slices"
	"testing"

	"hammock/api"
	"hammock/rank"
)

// reasons are all reasons.
var reasons = []int{NoNode, Never, Claimed, Waiting}

// outside are numbers that are no reasons.
var outside = []int{0, 5, -1, 6, -4, 255, 256, 257, 1 << 32, 1<<32 + 1, math.MinInt, math.MinInt + 1, math.MaxInt}

// pod returns a pod with the fields of its order, and a request that tells its ID.
func pod(id, priority, arrival int) api.Pod {
	return api.Pod{ID: id, Priority: priority, Arrival: arrival, Request: []int64{int64(id), 7}, Phase: api.Pending, Node: api.None, Deadline: api.None}
}

// reasonFor returns the reason with which of adds the pod at an index.
func reasonFor(i int) int { return reasons[i%len(reasons)] }

// of returns a lot with pods, which must have different IDs.
func of(t *testing.T, pods ...api.Pod) *Lot {
	t.Helper()
	l := New()
	for i, p := range pods {
		if !l.Add(p, reasonFor(i)) {
			t.Fatal("not added:", p)
		}
	}
	return l
}

// spot is an ID with its reason.
type spot struct{ id, reason int }

// spots returns the IDs of a lot that of has made of pods, in the order that is given.
func spots(pods []api.Pod, ids []int) []spot {
	var l []spot
	for _, id := range ids {
		l = append(l, spot{id, reasonFor(slices.IndexFunc(pods, func(p api.Pod) bool { return p.ID == id }))})
	}
	return l
}

// without returns the spots other than that of an ID.
func without(l []spot, id int) []spot {
	return slices.DeleteFunc(slices.Clone(l), func(s spot) bool { return s.id == id })
}

// holds checks that a lot has exactly these spots in order, by every method that does not change it.
func holds(t *testing.T, l *Lot, want ...spot) {
	t.Helper()
	var got []spot
	for _, p := range l.All() {
		reason, ok := l.Reason(p.ID)
		if !ok {
			t.Error("no reason for", p.ID)
		}
		got = append(got, spot{p.ID, reason})
	}
	if !slices.Equal(got, want) {
		t.Error("got", got, "want", want)
	}
	counts := map[int]int{}
	for _, s := range want {
		counts[s.reason]++
	}
	for _, reason := range slices.Concat(reasons, outside) {
		if n := l.Count(reason); n != counts[reason] {
			t.Error("count of", reason, "is", n, "want", counts[reason])
		}
	}
}

// ids returns the IDs of pods.
func ids(l []api.Pod) []int {
	var out []int
	for _, p := range l {
		out = append(out, p.ID)
	}
	return out
}

// orders are lists of pods, with their IDs in order.
func orders() []struct {
	l    []api.Pod
	want []int
} {
	return []struct {
		l    []api.Pod
		want []int
	}{
		{nil, nil},
		{[]api.Pod{pod(4, 1, 0)}, []int{4}},
		{[]api.Pod{{}}, []int{0}},
		// The greater priority comes first, whatever the arrivals and IDs are.
		{[]api.Pod{pod(1, 1, 0), pod(2, 5, 1)}, []int{2, 1}},
		{[]api.Pod{pod(1, -5, 0), pod(2, 0, 2), pod(3, -4, 1)}, []int{2, 3, 1}},
		{[]api.Pod{pod(1, -api.MaxPriority, 0), pod(2, api.MaxPriority, 9)}, []int{2, 1}},
		{[]api.Pod{pod(1, math.MinInt, 0), pod(2, math.MaxInt, 9), pod(3, 0, 0)}, []int{2, 3, 1}},
		// Then the lesser arrival, whatever the IDs are.
		{[]api.Pod{pod(1, 5, 3), pod(2, 5, 1), pod(3, 5, 2)}, []int{2, 3, 1}},
		{[]api.Pod{pod(1, 5, math.MaxInt), pod(2, 5, math.MinInt)}, []int{2, 1}},
		// Then the lesser ID, which may be any number.
		{[]api.Pod{pod(7, 5, 1), pod(6, 5, 1), pod(-1, 5, 1), pod(0, 5, 1)}, []int{-1, 0, 6, 7}},
		{[]api.Pod{pod(math.MaxInt, 5, 1), pod(math.MinInt, 5, 1)}, []int{math.MinInt, math.MaxInt}},
		// All of them.
		{[]api.Pod{pod(3, 2, 4), pod(1, 2, 4), pod(5, 9, 8), pod(4, 2, 3), pod(2, 9, 8)}, []int{2, 5, 4, 1, 3}},
	}
}

// P8.1
func TestNewIsEmpty(t *testing.T) {
	l := New()
	if l == nil {
		t.Fatal("no lot")
	}
	holds(t, l)
	other := New()
	l.Add(pod(1, 1, 0), Never)
	holds(t, other)
}

// The reasons have the numbers of the chapter.
func TestReasonNumbers(t *testing.T) {
	if !slices.Equal(reasons, []int{1, 2, 3, 4}) {
		t.Error(reasons)
	}
}

// P8.1: what is added, and what is not.
func TestAdd(t *testing.T) {
	l := New()
	for i, x := range []struct {
		p      api.Pod
		reason int
		ok     bool
		want   []spot
	}{
		{pod(3, 5, 0), NoNode, true, []spot{{3, NoNode}}},
		{pod(1, 4, 1), Waiting, true, []spot{{3, NoNode}, {1, Waiting}}},
		// An ID that is there, with the same reason or another one.
		{pod(3, 5, 0), NoNode, false, []spot{{3, NoNode}, {1, Waiting}}},
		{pod(3, 5, 0), Never, false, []spot{{3, NoNode}, {1, Waiting}}},
		{pod(1, 9, 9), Claimed, false, []spot{{3, NoNode}, {1, Waiting}}},
		// Wrong reasons, with an ID that is there and one that is not.
		{pod(3, 5, 0), 0, false, []spot{{3, NoNode}, {1, Waiting}}},
		{pod(2, 5, 0), 5, false, []spot{{3, NoNode}, {1, Waiting}}},
		// An ID that was not added before, for its reason.
		{pod(2, 6, 2), Claimed, true, []spot{{2, Claimed}, {3, NoNode}, {1, Waiting}}},
		{pod(-8, -6, 3), Never, true, []spot{{2, Claimed}, {3, NoNode}, {1, Waiting}, {-8, Never}}},
		{api.Pod{}, Never, true, []spot{{2, Claimed}, {3, NoNode}, {1, Waiting}, {0, Never}, {-8, Never}}},
		{api.Pod{}, NoNode, false, []spot{{2, Claimed}, {3, NoNode}, {1, Waiting}, {0, Never}, {-8, Never}}},
	} {
		if ok := l.Add(x.p, x.reason); ok != x.ok {
			t.Error(i, ok, x.ok)
		}
		holds(t, l, x.want...)
	}
}

// P8.1: each reason is one, and no other number is.
func TestAddReasons(t *testing.T) {
	for _, reason := range reasons {
		l := New()
		if !l.Add(pod(1, 2, 3), reason) {
			t.Error(reason)
		}
		holds(t, l, spot{1, reason})
	}
	for _, reason := range outside {
		for _, l := range []*Lot{New(), of(t, pod(1, 2, 3))} {
			want := l.All()
			if l.Add(pod(2, 2, 3), reason) || l.Add(pod(1, 5, 3), reason) {
				t.Error(reason)
			}
			if got := l.All(); !reflect.DeepEqual(got, want) {
				t.Error(reason, got, want)
			}
			if got, ok := l.Reason(2); ok || got != 0 {
				t.Error(reason, got, ok)
			}
		}
	}
}

// P8.1: of several pods with an ID, the first one is kept, with its reason and its fields.
func TestAddKeepsFirst(t *testing.T) {
	first, second := pod(1, 5, 3), pod(1, 9, 0)
	first.Grace, second.Grace, second.Request = 4, 6, []int64{8}
	for _, reason := range reasons {
		l := New()
		if !l.Add(first, Claimed) || l.Add(second, reason) {
			t.Error(reason)
		}
		holds(t, l, spot{1, Claimed})
		if got := l.Wake(); !reflect.DeepEqual(got, []api.Pod{first}) {
			t.Error(reason, got)
		}
	}
}

// P8.1, P8.2 and P8.3: an ID that has left may be added again, with another reason.
func TestAddAgain(t *testing.T) {
	l := of(t, pod(1, 5, 0), pod(2, 4, 1))
	l.Remove(1)
	if !l.Add(pod(1, 3, 0), Waiting) || l.Add(pod(1, 3, 0), NoNode) {
		t.Error("after Remove")
	}
	holds(t, l, spot{2, Never}, spot{1, Waiting})
	l.Wake()
	if !l.Add(pod(2, 1, 0), Claimed) || l.Add(pod(2, 1, 0), NoNode) {
		t.Error("after Wake")
	}
	holds(t, l, spot{2, Claimed})
}

// P8.2: each pod is removed from each lot, and the others keep their reasons.
func TestRemove(t *testing.T) {
	for i, x := range orders() {
		for _, p := range x.l {
			l := of(t, x.l...)
			got, ok := l.Remove(p.ID)
			if !ok || !reflect.DeepEqual(got, p) {
				t.Error(i, got, ok, p)
			}
			if reason, ok := l.Reason(p.ID); ok || reason != 0 {
				t.Error(i, "still has", p.ID, reason)
			}
			rest := without(spots(x.l, x.want), p.ID)
			holds(t, l, rest...)
			if got, ok := l.Remove(p.ID); ok || !reflect.DeepEqual(got, api.Pod{}) {
				t.Error(i, "again:", got, ok)
			}
			holds(t, l, rest...)
		}
	}
}

// P8.2: an ID that no pod has.
func TestRemoveNothing(t *testing.T) {
	for _, pods := range [][]api.Pod{nil, {pod(1, 5, 9), pod(3, 2, 8)}} {
		l := of(t, pods...)
		for _, id := range []int{0, 2, 4, 5, 7, 8, 9, -1, -3, math.MinInt, math.MaxInt} {
			if got, ok := l.Remove(id); ok || !reflect.DeepEqual(got, api.Pod{}) {
				t.Error(id, got, ok)
			}
			if reason, ok := l.Reason(id); ok || reason != 0 {
				t.Error(id, reason, ok)
			}
			holds(t, l, spots(pods, ids(pods))...)
		}
	}
}

// P8.2: the reason is the one with which the pod was added, whatever the pod is.
func TestReason(t *testing.T) {
	l := New()
	for _, reason := range reasons {
		for i, phase := range []int{api.Pending, api.Nominated, api.Bound, api.Gone, 0} {
			p := pod(10*reason+i, reason, i)
			p.Phase, p.Preempts, p.Node = phase, i%2 == 0, i
			if !l.Add(p, reason) {
				t.Error(p)
			}
			for range 2 {
				if got, ok := l.Reason(p.ID); got != reason || !ok {
					t.Error(p.ID, got, ok, reason)
				}
			}
		}
	}
	for i := range 50 {
		want := i / 10
		is := want > 0 && i%10 < 5
		if !is {
			want = 0
		}
		if got, ok := l.Reason(i); got != want || ok != is {
			t.Error(i, got, ok)
		}
	}
}

// P8.3: Wake returns all pods in order, and none stays.
func TestWake(t *testing.T) {
	for i, x := range orders() {
		for turn := range max(1, len(x.l)) {
			l := of(t, slices.Concat(x.l[turn:], x.l[:turn])...)
			seen := l.All()
			got := l.Wake()
			if !slices.Equal(ids(got), x.want) || len(got) > 0 && !reflect.DeepEqual(got, seen) {
				t.Error(i, ids(got), x.want, seen)
			}
			holds(t, l)
			for _, p := range x.l {
				if reason, ok := l.Reason(p.ID); ok || reason != 0 {
					t.Error(i, p.ID, reason, ok)
				}
				if p, ok := l.Remove(p.ID); ok || !reflect.DeepEqual(p, api.Pod{}) {
					t.Error(i, p, ok)
				}
			}
			if again := l.Wake(); len(again) != 0 {
				t.Error(i, again)
			}
			if !l.Add(pod(77, 1, 1), Claimed) {
				t.Error(i, "not added")
			}
			holds(t, l, spot{77, Claimed})
		}
	}
}

// P8.3: All does not depend on the order in which the pods were added, nor on their reasons, and changes nothing.
func TestAll(t *testing.T) {
	for i, x := range orders() {
		for turn := range max(1, len(x.l)) {
			pods := slices.Concat(x.l[turn:], x.l[:turn])
			l := of(t, pods...)
			for range 2 {
				holds(t, l, spots(pods, x.want)...)
				for k, p := range l.All() {
					if want := x.l[slices.Index(ids(x.l), p.ID)]; !reflect.DeepEqual(p, want) {
						t.Error(i, k, p, want)
					}
				}
			}
		}
	}
}

// P8.3: the order of many pods does not change from call to call, though that of a map does.
func TestOrderOfMany(t *testing.T) {
	pods := scattered(500)
	l, want := of(t, pods...), rank.Sort(pods)
	for range 20 {
		if got := l.All(); !reflect.DeepEqual(got, want) {
			t.Fatal(ids(got), ids(want))
		}
	}
	if got := l.Wake(); !reflect.DeepEqual(got, want) {
		t.Error(ids(got), ids(want))
	}
}

// P8.3
func TestCount(t *testing.T) {
	l, counts := New(), map[int]int{}
	check := func(what string) {
		t.Helper()
		for _, reason := range slices.Concat(reasons, outside) {
			if n := l.Count(reason); n != counts[reason] {
				t.Error(what, reason, n, counts[reason])
			}
		}
	}
	check("empty:")
	// The reason 1 once, 2 twice, and so on.
	for _, reason := range []int{4, 3, 2, 1, 2, 3, 3, 4, 4, 4} {
		l.Add(pod(len(l.All()), reason, 0), reason)
		counts[reason]++
		check("added:")
		l.Add(pod(0, reason, 0), reason)
		check("not added:")
	}
	if counts[NoNode] != 1 || counts[Never] != 2 || counts[Claimed] != 3 || counts[Waiting] != 4 {
		t.Error(counts)
	}
	for _, p := range l.All() {
		reason, _ := l.Reason(p.ID)
		l.Remove(p.ID)
		counts[reason]--
		check("removed:")
	}
	l.Add(pod(1, 1, 1), Never)
	l.Wake()
	check("woken:")
}

// P8.3: as many pods as a cluster may have.
func TestMany(t *testing.T) {
	pods := scattered(api.MaxPods)
	l := of(t, pods...)
	for _, reason := range reasons {
		if n := l.Count(reason); n != api.MaxPods/4 {
			t.Error(reason, n)
		}
	}
	got := l.Wake()
	if len(got) != api.MaxPods || !slices.IsSortedFunc(got, rank.Compare) {
		t.Error(len(got))
	}
	holds(t, l)
}

// P8.4
func TestName(t *testing.T) {
	for i, want := range []string{"", "no node", "never", "claimed", "waiting", ""} {
		if got := Name(i); got != want {
			t.Errorf("Name(%d) is %q, not %q", i, got, want)
		}
	}
	for _, reason := range outside {
		if got := Name(reason); got != "" {
			t.Errorf("Name(%d) is %q", reason, got)
		}
	}
	if Name(NoNode) != "no node" || Name(Never) != "never" || Name(Claimed) != "claimed" || Name(Waiting) != "waiting" {
		t.Error(Name(NoNode), Name(Never), Name(Claimed), Name(Waiting))
	}
}

// P8.1 to P8.3: each field is returned as it was given, by each method.
func TestFieldsStay(t *testing.T) {
	full := api.Pod{ID: -7, Priority: -3, Preempts: true, Grace: -9, Request: []int64{math.MinInt64, 0, math.MaxInt64}, Arrival: 11, Phase: api.Gone, Node: 13, Deadline: 17}
	odd := api.Pod{ID: math.MaxInt, Priority: -4, Grace: math.MaxInt, Arrival: -2, Phase: 99, Node: -5, Deadline: math.MinInt}
	l := of(t, odd, full)
	if got := l.All(); !reflect.DeepEqual(got, []api.Pod{full, odd}) {
		t.Error(got)
	}
	if got, ok := l.Remove(full.ID); !ok || !reflect.DeepEqual(got, full) {
		t.Error(got, ok)
	}
	if !l.Add(full, Waiting) {
		t.Error("not added")
	}
	if got := l.Wake(); !reflect.DeepEqual(got, []api.Pod{full, odd}) {
		t.Error(got)
	}
}

// scattered returns n pods with the IDs from 0 on, in an order that follows no key.
func scattered(n int) []api.Pod {
	next := numbers()
	l := make([]api.Pod, n)
	for i := range l {
		l[i] = pod(i, next(8)-4, next(16))
	}
	return l
}

// numbers returns a function whose results are from 0 to less than the argument, and the same in each test.
func numbers() func(n int) int {
	x := uint64(7)
	return func(n int) int {
		x = x*6364136223846793005 + 1442695040888963407
		return int(x >> 33 % uint64(n))
	}
}

// model is a lot that is nothing but a list.
type model []entry

// index returns the index of an ID, or a negative number.
func (m model) index(id int) int {
	return slices.IndexFunc(m, func(e entry) bool { return e.pod.ID == id })
}

// all returns the pods in order.
func (m model) all() []api.Pod {
	var l []api.Pod
	for _, e := range m {
		l = append(l, e.pod)
	}
	return rank.Sort(l)
}

// add adds a pod with a reason.
func (m *model) add(p api.Pod, reason int) bool {
	if m.index(p.ID) >= 0 || !slices.Contains(reasons, reason) {
		return false
	}
	*m = append(*m, entry{p, reason})
	return true
}

// remove removes the pod with an ID.
func (m *model) remove(id int) (api.Pod, bool) {
	i := m.index(id)
	if i < 0 {
		return api.Pod{}, false
	}
	p := (*m)[i].pod
	*m = slices.Delete(*m, i, i+1)
	return p, true
}

// spots returns the IDs and reasons in the order of the pods.
func (m model) spots() []spot {
	var l []spot
	for _, p := range m.all() {
		l = append(l, spot{p.ID, m[m.index(p.ID)].reason})
	}
	return l
}

// P8.1 to P8.3: in a long run of calls, the lot answers as the model does.
func TestModel(t *testing.T) {
	l, m, next := New(), &model{}, numbers()
	for i := range 5000 {
		id := next(60)
		switch kind := next(60); {
		case kind < 35:
			p, reason := pod(id, next(4), next(6)), next(6)
			if got, want := l.Add(p, reason), m.add(p, reason); got != want {
				t.Fatal(i, "add:", got, want)
			}
		case kind < 59:
			got, ok := l.Remove(id)
			if want, is := m.remove(id); ok != is || !reflect.DeepEqual(got, want) {
				t.Fatal(i, "remove:", got, ok, want, is)
			}
		default:
			if got, want := l.Wake(), m.all(); len(got) != len(want) || len(got) > 0 && !reflect.DeepEqual(got, want) {
				t.Fatal(i, "wake:", got, want)
			}
			*m = nil
		}
		holds(t, l, m.spots()...)
		if t.Failed() {
			t.Fatal(i)
		}
	}
}

// P8.1: the lot keeps copies, and changes neither the pods nor what lies behind them.
func TestAddCopies(t *testing.T) {
	request := []int64{1, 2, 3, 4}
	a, b := api.Pod{ID: 1, Request: request[:2]}, api.Pod{ID: 2, Priority: 5, Request: request[:0]}
	l := of(t, a, b)
	request[0], request[2] = 8, 9
	got := l.Wake()
	if len(got) != 2 || got[0].ID != 2 || len(got[0].Request) != 0 || got[1].ID != 1 || !slices.Equal(got[1].Request, []int64{1, 2}) {
		t.Fatal(got)
	}
	for _, p := range got {
		behind := p.Request[:cap(p.Request)]
		for i := range behind {
			behind[i] = 50
		}
	}
	if !slices.Equal(request, []int64{8, 2, 9, 4}) {
		t.Error(request)
	}
}

// P8.3: what All returns shares no memory with the lot.
func TestAllCopies(t *testing.T) {
	l := of(t, pod(1, 5, 0), pod(2, 4, 1))
	for range 2 {
		all := l.All()
		if !reflect.DeepEqual(all, []api.Pod{pod(1, 5, 0), pod(2, 4, 1)}) {
			t.Error(all)
		}
		all[0].Request[1], all[1].Request[0], all[1].Priority = 60, 70, 80
		all[0] = api.Pod{}
	}
	holds(t, l, spot{1, NoNode}, spot{2, Never})
}

// P8.2 and P8.3: a pod that has left does not change with the lot, nor the lot with it.
func TestLeftPodsAreApart(t *testing.T) {
	l := of(t, pod(1, 5, 0), pod(2, 4, 1))
	removed, _ := l.Remove(1)
	woken := l.Wake()
	if len(woken) != 1 {
		t.Fatal(woken)
	}
	l.Add(removed, Claimed)
	l.Add(woken[0], Waiting)
	removed.Request[0], woken[0].Request[0] = 50, 60
	if got := l.All(); !reflect.DeepEqual(got, []api.Pod{pod(1, 5, 0), pod(2, 4, 1)}) {
		t.Error(got)
	}
	l.Wake()
	l.Add(pod(8, 1, 0), NoNode)
	if !slices.Equal(removed.Request, []int64{50, 7}) || !slices.Equal(woken[0].Request, []int64{60, 7}) {
		t.Error(removed, woken)
	}
}

// All methods return zero values for nil.
func TestNil(t *testing.T) {
	var l *Lot
	for _, reason := range slices.Concat(reasons, outside) {
		if l.Add(pod(1, 1, 0), reason) || l.Count(reason) != 0 {
			t.Error(reason, l.Count(reason))
		}
	}
	for _, id := range []int{0, 1} {
		if got, ok := l.Remove(id); ok || !reflect.DeepEqual(got, api.Pod{}) {
			t.Error(id, got, ok)
		}
		if got, ok := l.Reason(id); ok || got != 0 {
			t.Error(id, got, ok)
		}
	}
	if len(l.All()) != 0 || len(l.Wake()) != 0 {
		t.Error(l.All(), l.Wake())
	}
}
