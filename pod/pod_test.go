package pod

import (
	"errors"
	"math"
	"slices"
	"testing"

	"hammock/api"
	"hammock/phase"
)

// outside are IDs that the stores of most tests do not have.
var outside = []int{-2, 9, 10, 255, 256, 1 << 31, 1<<32 + 1, math.MinInt + 1, math.MaxInt - 1}

// events are all events, and numbers that are none.
var events = []int{phase.Bind, phase.Claim, phase.Clear, phase.Evict, phase.Free, 0, 6, -1, 257, math.MinInt, math.MaxInt}

// phases are all phases, and numbers that are none.
var phases = []int{api.Pending, api.Nominated, api.Bound, api.Terminating, api.Gone, 0, 6, -1, 257, math.MinInt, math.MaxInt}

// nodes are those that the tests use, and others.
var nodes = []int{api.None, 0, 1, 2, 3, 4, 5, -2, api.MaxID, math.MinInt, math.MaxInt}

// vector returns its arguments.
func vector(v ...int64) []int64 { return v }

// of returns a pod with an ID on which its other fields depend, as it is after Submit.
func of(id, arrival int) api.Pod {
	return api.Pod{
		ID:       id,
		Priority: id % 3,
		Preempts: id%2 == 0,
		Grace:    id ^ 5,
		Request:  vector(int64(id), 4),
		Arrival:  arrival,
		Phase:    api.Pending,
		Node:     api.None,
		Deadline: api.None,
	}
}

// changed returns a pod with another phase, node and deadline.
func changed(p api.Pod, phase, node, deadline int) api.Pod {
	p.Phase, p.Node, p.Deadline = phase, node, deadline
	return p
}

// same reports whether two pods have the same fields.
func same(p, q api.Pod) bool {
	equal := slices.Equal(p.Request, q.Request)
	return equal && p.ID == q.ID && p.Priority == q.Priority && p.Preempts == q.Preempts && p.Grace == q.Grace &&
		p.Arrival == q.Arrival && p.Phase == q.Phase && p.Node == q.Node && p.Deadline == q.Deadline
}

// isZero reports whether a pod is the zero Pod.
func isZero(p api.Pod) bool { return same(p, api.Pod{}) && len(p.Request) == 0 }

// isFault reports whether an error is the api.Fault with a code and the index 0, or nil for the code 0.
func isFault(err error, code api.Code) bool {
	if code == 0 {
		return err == nil
	}
	return err == api.Fault{Code: code}
}

// answers checks that a pod and an error are those of a call that returns a pod, or a zero Pod with an error.
func answers(t *testing.T, p api.Pod, err error, want api.Pod, code api.Code) {
	t.Helper()
	if code != 0 {
		want = api.Pod{}
	}
	if !same(p, want) || !isFault(err, code) {
		t.Error("answer:", p, err, "want", want, code)
	}
}

// submit adds a pod that the store has room for.
func submit(t *testing.T, s *Store, p api.Pod) {
	t.Helper()
	if _, err := s.Submit(p); err != nil {
		t.Fatal(p, err)
	}
}

// run applies events to a pod, with the node 3 and the deadline 50, and returns it afterwards.
func run(t *testing.T, s *Store, id int, events ...int) api.Pod {
	t.Helper()
	for _, event := range events {
		if _, err := s.Apply(id, event, 3, 50); err != nil {
			t.Fatal(id, event, err)
		}
	}
	p, _ := s.Get(id)
	return p
}

// pick returns the pods for which a function is true.
func pick(pods []api.Pod, is func(api.Pod) bool) []api.Pod {
	var l []api.Pod
	for _, p := range pods {
		if is(p) {
			l = append(l, p)
		}
	}
	return l
}

// holds checks that a store has exactly these pods, by every method that does not change it.
func holds(t *testing.T, s *Store, want ...api.Pod) {
	t.Helper()
	for range 2 {
		if got := s.All(); !slices.EqualFunc(got, want, same) {
			t.Error("pods:", got, "want", want)
		}
		if s.Len() != len(want) {
			t.Error("number:", s.Len(), "want", len(want))
		}
		for _, p := range want {
			if got, ok := s.Get(p.ID); !ok || !same(got, p) {
				t.Error("pod:", got, ok, "want", p)
			}
		}
		for _, phase := range phases {
			with := pick(want, func(p api.Pod) bool { return p.Phase == phase })
			if got := s.With(phase); !slices.EqualFunc(got, with, same) {
				t.Error("phase", phase, "has", got, "want", with)
			}
			if got := s.Count(phase); got != len(with) {
				t.Error("phase", phase, "has", got, "pods, want", len(with))
			}
		}
		for _, node := range nodes {
			on := pick(want, func(p api.Pod) bool {
				return p.Node == node && p.Phase != api.Pending && p.Phase != api.Gone
			})
			if got := s.On(node); !slices.EqualFunc(got, on, same) {
				t.Error("node", node, "has", got, "want", on)
			}
		}
		for _, id := range outside {
			if !slices.ContainsFunc(want, func(p api.Pod) bool { return p.ID == id }) {
				lacks(t, s, id)
			}
		}
	}
}

// lacks checks that a store has no pod with an ID, by every method that does not add one.
func lacks(t *testing.T, s *Store, id int) {
	t.Helper()
	if p, ok := s.Get(id); ok || !isZero(p) {
		t.Error("pod", id, "is", p, ok)
	}
	// An unknown pod comes before an event that does not exist.
	for _, event := range events {
		if p, err := s.Apply(id, event, 1, 2); !isZero(p) || !isFault(err, api.Unknown) {
			t.Error("event", event, "of", id, "returns", p, err)
		}
	}
}

// lists are lists of different IDs.
func lists() [][]int {
	return [][]int{
		nil,
		{0},
		{4},
		{-1, 1},
		{7, 5, 3},
		{2, -3, 6, 0, 1},
		{math.MaxInt, math.MinInt, 0},
		{api.MaxID, 1 << 32, 1<<32 + 2, -api.MaxID, api.MaxID + 1},
	}
}

// P13.1: a new store is empty, whatever its size is.
func TestNewIsEmpty(t *testing.T) {
	for _, size := range []int{0, 1, api.MaxPods, 1 << 40, math.MaxInt, -1, math.MinInt} {
		s := New(size)
		if s == nil {
			t.Fatal("no store for", size)
		}
		holds(t, s)
		lacks(t, s, 0)
	}
}

// P13.1: a store has as many pods as its size, and no more; a negative size is treated as 0.
func TestSizes(t *testing.T) {
	for size, most := range map[int]int{math.MinInt: 0, -7: 0, -1: 0, 0: 0, 1: 1, 2: 2, 3: 3, 1000: 1000} {
		s := New(size)
		var all []api.Pod
		for i := range most {
			p, err := s.Submit(of(i*3, 0))
			answers(t, p, err, of(i*3, i), 0)
			all = append(all, of(i*3, i))
		}
		for _, id := range []int{most * 3, -1, 50000} {
			p, err := s.Submit(of(id, 0))
			answers(t, p, err, api.Pod{}, api.Full)
		}
		holds(t, s, all...)
	}
}

// P13.1: a store has room for all pods of the limits.
func TestGreatestSize(t *testing.T) {
	s := New(api.MaxPods)
	for i := range api.MaxPods {
		if p, err := s.Submit(api.Pod{ID: i}); err != nil || p.Arrival != i {
			t.Fatal(i, p, err)
		}
	}
	if _, err := s.Submit(api.Pod{ID: api.MaxPods}); !isFault(err, api.Full) || s.Len() != api.MaxPods {
		t.Error(err, s.Len())
	}
	if n := s.Count(api.Pending); n != api.MaxPods {
		t.Error(n)
	}
}

// P13.1: stores are apart.
func TestStoresAreApart(t *testing.T) {
	a, b := New(1), New(2)
	submit(t, a, of(1, 0))
	run(t, a, 1, phase.Bind)
	holds(t, b)
	submit(t, b, of(2, 0))
	submit(t, b, of(1, 0))
	run(t, b, 1, phase.Claim)
	holds(t, a, changed(of(1, 0), api.Bound, 3, api.None))
	holds(t, b, of(2, 0), changed(of(1, 1), api.Nominated, 3, api.None))
}

// P13.1: which fields are set, and that the others stay as they are, also if they are beyond the limits.
func TestSubmitFields(t *testing.T) {
	for _, x := range []api.Pod{
		{},
		{ID: -5},
		{ID: 3, Priority: 7, Preempts: true, Grace: 9, Request: vector(1, 2)},
		{ID: 3, Priority: -7, Grace: -9, Request: vector(-1)},
		{ID: math.MinInt, Priority: math.MinInt, Grace: math.MinInt, Request: vector(math.MinInt64, math.MaxInt64), Arrival: math.MinInt, Phase: math.MinInt, Node: math.MinInt, Deadline: math.MinInt},
		{ID: math.MaxInt, Priority: math.MaxInt, Preempts: true, Grace: math.MaxInt, Request: make([]int64, 100), Arrival: math.MaxInt, Phase: math.MaxInt, Node: math.MaxInt, Deadline: math.MaxInt},
		{ID: 4, Arrival: 6, Phase: api.Bound, Node: 2, Deadline: 8},
		{ID: 4, Arrival: -6, Phase: api.Terminating, Node: 3, Deadline: 0, Request: vector()},
		{ID: 4, Arrival: 1, Phase: api.Gone, Node: -2, Deadline: -2},
		{ID: 4, Arrival: 1, Phase: api.Nominated, Node: 0, Deadline: 0},
	} {
		s := New(2)
		p, err := s.Submit(x)
		want := changed(x, api.Pending, -1, -1)
		want.Arrival = 0
		answers(t, p, err, want, 0)
		holds(t, s, want)
		// The next one has the Arrival 1.
		x.ID ^= 1
		p, err = s.Submit(x)
		next := want
		next.ID, next.Arrival = x.ID, 1
		answers(t, p, err, next, 0)
		holds(t, s, want, next)
	}
}

// P13.1: what is added, and what is not, with the first one of several errors; a pod that is not added does not count for the Arrivals.
func TestSubmitErrors(t *testing.T) {
	s := New(3)
	var all []api.Pod
	for i, x := range []struct {
		id   int
		code api.Code
	}{
		{5, 0},
		{5, api.Duplicate},
		{-1, 0},
		{5, api.Duplicate},
		{-1, api.Duplicate},
		{0, 0},
		// The store is full, and a duplicate comes first.
		{6, api.Full},
		{0, api.Duplicate},
		{5, api.Duplicate},
		{math.MaxInt, api.Full},
		// A pod that was not added is no duplicate.
		{6, api.Full},
	} {
		p, err := s.Submit(of(x.id, i))
		answers(t, p, err, of(x.id, len(all)), x.code)
		if x.code == 0 {
			all = append(all, of(x.id, len(all)))
		}
		holds(t, s, all...)
	}
}

// P13.1: a duplicate with other fields does not replace the pod that is there, whatever its phase is.
func TestDuplicates(t *testing.T) {
	for _, before := range runs() {
		s := New(2)
		submit(t, s, of(1, 0))
		want := run(t, s, 1, before...)
		p, err := s.Submit(api.Pod{ID: 1, Priority: 100, Request: vector(9)})
		answers(t, p, err, api.Pod{}, api.Duplicate)
		holds(t, s, want)
	}
}

// P13.1 and P13.3: pods are submitted in any order of their IDs, and those that are there stay as they are.
func TestSubmitInAnyOrder(t *testing.T) {
	for _, l := range lists() {
		for turn := range max(1, len(l)) {
			s := New(len(l))
			var all []api.Pod
			for n, id := range slices.Concat(l[turn:], l[:turn]) {
				lacks(t, s, id)
				p, err := s.Submit(of(id, -1))
				answers(t, p, err, of(id, n), 0)
				all = append(all, of(id, n))
				holds(t, s, all...)
			}
		}
	}
}

// P13.1 to P13.3: the errors are faults of their own type, from which the library and its users take the code.
func TestErrorsAreFaults(t *testing.T) {
	s := New(1)
	submit(t, s, of(7, 0))
	_, duplicate := s.Submit(of(7, 0))
	_, full := s.Submit(of(8, 0))
	_, unknown := s.Apply(8, phase.Bind, 0, 0)
	_, bad := s.Apply(7, phase.Clear, 0, 0)
	for want, err := range map[api.Code]error{api.Duplicate: duplicate, api.Full: full, api.Unknown: unknown, api.BadPhase: bad} {
		got, ok := err.(api.Fault)
		if !ok || got.Code != want || got.At != 0 || !errors.Is(err, want) || err.Error() != want.Error() {
			t.Error(err, want)
		}
	}
}

// runs are runs of events that apply, which lead to each phase in several ways.
func runs() [][]int {
	return [][]int{
		{},
		{phase.Claim, phase.Clear},
		{phase.Claim},
		{phase.Claim, phase.Claim},
		{phase.Bind},
		{phase.Claim, phase.Bind},
		{phase.Bind, phase.Evict},
		{phase.Claim, phase.Bind, phase.Evict},
		{phase.Free},
		{phase.Claim, phase.Free},
		{phase.Bind, phase.Free},
		{phase.Bind, phase.Evict, phase.Free},
	}
}

// next returns what an event makes of a pod, and true; or a zero Pod and false if it does not apply.
func next(p api.Pod, event, node, deadline int) (api.Pod, bool) {
	waits := p.Phase == api.Pending || p.Phase == api.Nominated
	switch {
	case event == 1 && waits:
		return changed(p, api.Bound, node, -1), true
	case event == 2 && waits:
		return changed(p, api.Nominated, node, -1), true
	case event == 3 && p.Phase == api.Nominated:
		return changed(p, api.Pending, -1, -1), true
	case event == 4 && p.Phase == api.Bound:
		return changed(p, api.Terminating, p.Node, deadline), true
	case event == 5 && p.Phase != api.Gone:
		return changed(p, api.Gone, -1, -1), true
	}
	return api.Pod{}, false
}

// P13.2 and P13.4: every event in every phase, with several nodes and deadlines; other pods stay as they are.
func TestApply(t *testing.T) {
	for _, before := range runs() {
		for _, event := range events {
			for _, node := range nodes {
				for _, deadline := range []int{api.None, 0, 7, 50, -2, api.MaxClock, math.MinInt, math.MaxInt} {
					s := New(3)
					for i := range 3 {
						submit(t, s, of(i, 0))
					}
					p := run(t, s, 1, before...)
					want, ok := next(p, event, node, deadline)
					code := api.Code(0)
					if !ok {
						want, code = p, api.BadPhase
					}
					got, err := s.Apply(1, event, node, deadline)
					answers(t, got, err, want, code)
					if all := s.All(); !slices.EqualFunc(all, []api.Pod{of(0, 0), want, of(2, 2)}, same) {
						t.Error(before, event, node, deadline, all)
					}
				}
			}
		}
	}
}

// P13.2: the pods after some runs of events, each with a node and a deadline of its own.
func TestApplyRuns(t *testing.T) {
	type step struct{ event, node, deadline, phase, atNode, atDeadline int }
	for i, x := range [][]step{
		{{phase.Bind, 3, 0, api.Bound, 3, -1}, {phase.Evict, 4, 9, api.Terminating, 3, 9}, {phase.Free, 5, 8, api.Gone, -1, -1}},
		{{phase.Claim, 3, 1, api.Nominated, 3, -1}, {phase.Claim, 4, 2, api.Nominated, 4, -1}, {phase.Bind, 5, 3, api.Bound, 5, -1}, {phase.Evict, -1, 0, api.Terminating, 5, 0}},
		{{phase.Claim, 0, 1, api.Nominated, 0, -1}, {phase.Clear, 4, 2, api.Pending, -1, -1}, {phase.Claim, 0, 3, api.Nominated, 0, -1}, {phase.Bind, 0, 0, api.Bound, 0, -1}},
		{{phase.Bind, 2, 5, api.Bound, 2, -1}, {phase.Free, 2, 5, api.Gone, -1, -1}},
		{{phase.Claim, 2, 5, api.Nominated, 2, -1}, {phase.Free, 2, 5, api.Gone, -1, -1}},
		// The node and the deadline may be any numbers.
		{{phase.Claim, -1, -7, api.Nominated, -1, -1}, {phase.Bind, -8, -7, api.Bound, -8, -1}, {phase.Evict, -9, -7, api.Terminating, -8, -7}},
		{{phase.Bind, math.MinInt, 0, api.Bound, math.MinInt, -1}, {phase.Evict, 0, math.MaxInt, api.Terminating, math.MinInt, math.MaxInt}},
		{{phase.Free, 1, 1, api.Gone, -1, -1}},
	} {
		s := New(1)
		submit(t, s, of(7, 0))
		for _, y := range x {
			want := changed(of(7, 0), y.phase, y.atNode, y.atDeadline)
			got, err := s.Apply(7, y.event, y.node, y.deadline)
			if answers(t, got, err, want, 0); t.Failed() {
				t.Fatal(i, y)
			}
			holds(t, s, want)
		}
	}
}

// P13.2: an ID that no pod has changes nothing.
func TestApplyUnknown(t *testing.T) {
	for _, l := range lists() {
		s := New(len(l) + 1)
		var all []api.Pod
		for i, id := range l {
			submit(t, s, of(id, 0))
			all = append(all, of(id, i))
		}
		for _, id := range []int{0, 1, -1, 4, 5, 8, math.MaxInt, math.MinInt} {
			if !slices.Contains(l, id) {
				lacks(t, s, id)
			}
		}
		holds(t, s, all...)
	}
}

// P13.2 and P13.3: pods that are Gone stay, and fill their place.
func TestGoneStay(t *testing.T) {
	s := New(2)
	submit(t, s, of(1, 0))
	submit(t, s, of(2, 0))
	run(t, s, 1, phase.Bind, phase.Free)
	gone, left := changed(of(1, 0), api.Gone, -1, -1), of(2, 1)
	holds(t, s, gone, left)
	for _, event := range events {
		p, err := s.Apply(1, event, 3, 4)
		answers(t, p, err, api.Pod{}, api.BadPhase)
	}
	p, err := s.Submit(of(1, 0))
	answers(t, p, err, api.Pod{}, api.Duplicate)
	p, err = s.Submit(of(3, 0))
	answers(t, p, err, api.Pod{}, api.Full)
	holds(t, s, gone, left)
}

// P13.3: the lists of some pods in all phases, in the order of their Arrivals and not of their IDs, changes or nodes.
func TestLists(t *testing.T) {
	s := New(20)
	ids := []int{8, 3, 7, 1, 6, 2, 5, 4}
	for _, id := range ids {
		submit(t, s, of(id, 0))
	}
	for _, x := range []struct{ id, event, node, deadline int }{
		{4, phase.Bind, 1, 0}, {6, phase.Bind, 2, 0}, {8, phase.Bind, 1, 0}, {3, phase.Claim, 1, 0}, {1, phase.Claim, 2, 0},
		{6, phase.Evict, 0, 5}, {2, phase.Bind, 1, 0}, {2, phase.Free, 0, 0}, {5, phase.Claim, 1, 0}, {5, phase.Clear, 1, 0}, {4, phase.Evict, 0, 9},
	} {
		if _, err := s.Apply(x.id, x.event, x.node, x.deadline); err != nil {
			t.Fatal(x, err)
		}
	}
	for i, x := range []struct {
		got  []api.Pod
		want []int
	}{
		{s.All(), ids},
		{s.On(1), []int{8, 3, 4}},
		{s.On(2), []int{1, 6}},
		{s.On(0), nil},
		{s.On(api.None), nil},
		{s.With(api.Pending), []int{7, 5}},
		{s.With(api.Nominated), []int{3, 1}},
		{s.With(api.Bound), []int{8}},
		{s.With(api.Terminating), []int{6, 4}},
		{s.With(api.Gone), []int{2}},
		{s.With(0), nil},
		{s.With(6), nil},
		{s.With(-1), nil},
	} {
		var got []int
		for _, p := range x.got {
			got = append(got, p.ID)
		}
		if !slices.Equal(got, x.want) {
			t.Error(i, got, "want", x.want)
		}
	}
	counts := []int{0, 2, 2, 1, 2, 1, 0}
	for phase, want := range counts {
		if n := s.Count(phase); n != want {
			t.Error(phase, n, "want", want)
		}
	}
	if s.Len() != 8 {
		t.Error(s.Len())
	}
}

// P13.3: a pod that was placed on None is on it; one that has no node is not.
func TestOnNone(t *testing.T) {
	s := New(5)
	for id := range 5 {
		submit(t, s, of(id, 0))
	}
	s.Apply(1, phase.Claim, api.None, 0)
	s.Apply(2, phase.Bind, api.None, 0)
	s.Apply(3, phase.Bind, api.None, 0)
	s.Apply(3, phase.Evict, 0, 6)
	s.Apply(4, phase.Free, 0, 0)
	on := []api.Pod{changed(of(1, 1), api.Nominated, -1, -1), changed(of(2, 2), api.Bound, -1, -1), changed(of(3, 3), api.Terminating, -1, 6)}
	if got := s.On(api.None); !slices.EqualFunc(got, on, same) {
		t.Error(got)
	}
}

// P13.3: the pods are yielded up to the one at which a loop is left.
func TestLoopIsLeft(t *testing.T) {
	s := New(5)
	for id := range 5 {
		submit(t, s, of(id, 0))
	}
	for most := 1; most <= 5; most++ {
		n := 0
		for p := range s.each(func(p api.Pod) bool { return true }) {
			if p.ID != n {
				t.Error(p, n)
			}
			if n++; n == most {
				break
			}
		}
		if n != most {
			t.Error(n, most)
		}
	}
}

// The example of the chapter.
func TestExample(t *testing.T) {
	s := New(1)
	submit(t, s, of(7, 0))
	p, err := s.Apply(7, phase.Bind, 3, 0)
	answers(t, p, err, changed(of(7, 0), api.Bound, 3, api.None), 0)
}

// Requests are copied: those that are given.
func TestArgumentsAreCopied(t *testing.T) {
	memory := vector(5, 2, 8, 8)
	s := New(1)
	p := of(1, 0)
	p.Request = memory[:2]
	got, _ := s.Submit(p)
	got.Request = append(got.Request, 1)
	if !slices.Equal(memory, vector(5, 2, 8, 8)) {
		t.Error(memory)
	}
	memory[0], memory[1] = 9, 9
	p.Request = vector(5, 2)
	holds(t, s, p)
}

// Requests are copied: those that are returned, each one apart from the others.
func TestResultsAreCopies(t *testing.T) {
	s := New(2)
	first, _ := s.Submit(of(1, 0))
	second, _ := s.Submit(of(2, 0))
	bound, _ := s.Apply(1, phase.Bind, 3, 0)
	got, _ := s.Get(1)
	again, _ := s.Get(1)
	pods := slices.Concat([]api.Pod{first, second, bound, got, again}, s.All(), s.All(), s.On(3), s.On(3), s.With(api.Bound), s.With(api.Bound), s.With(api.Pending))
	for i, p := range pods {
		p.Request[0], p.Request[1] = int64(i), 99
		_ = append(p.Request, 98)
	}
	for i, p := range pods {
		if !slices.Equal(p.Request, vector(int64(i), 99)) {
			t.Error(i, p)
		}
	}
	one := s.All()
	one[0], one[1] = api.Pod{}, api.Pod{}
	holds(t, s, changed(of(1, 0), api.Bound, 3, -1), of(2, 1))
}

// Requests are copied: a result stays as it is when the store changes.
func TestResultsStay(t *testing.T) {
	s := New(3)
	submit(t, s, of(1, 0))
	submit(t, s, of(2, 0))
	p, _ := s.Get(1)
	all, with, on := s.All(), s.With(api.Pending), s.On(3)
	run(t, s, 1, phase.Claim)
	submit(t, s, of(3, 0))
	want := []api.Pod{of(1, 0), of(2, 1)}
	if !same(p, want[0]) || !slices.EqualFunc(all, want, same) || !slices.EqualFunc(with, want, same) || len(on) != 0 {
		t.Error(p, all, with, on)
	}
}

// numbers returns a function whose results are from 0 to less than the argument, and the same in each test.
func numbers() func(n int) int {
	x := uint64(7)
	return func(n int) int {
		x = x*6364136223846793005 + 1442695040888963407
		return int(x >> 33 % uint64(n))
	}
}

// model is a store that is nothing but a list.
type model struct {
	size int
	pods []api.Pod
}

// index returns the index of the pod with an ID, or -1.
func (m *model) index(id int) int {
	return slices.IndexFunc(m.pods, func(p api.Pod) bool { return p.ID == id })
}

// submit adds a pod and returns it, or returns the code of the error.
func (m *model) submit(p api.Pod) (api.Pod, api.Code) {
	if m.index(p.ID) >= 0 {
		return api.Pod{}, api.Duplicate
	}
	if len(m.pods) == m.size {
		return api.Pod{}, api.Full
	}
	p.Arrival = len(m.pods)
	m.pods = append(m.pods, changed(p, api.Pending, -1, -1))
	return m.pods[p.Arrival], 0
}

// apply changes a pod and returns it, or returns the code of the error.
func (m *model) apply(id, event, node, deadline int) (api.Pod, api.Code) {
	i := m.index(id)
	if i < 0 {
		return api.Pod{}, api.Unknown
	}
	p, ok := next(m.pods[i], event, node, deadline)
	if !ok {
		return api.Pod{}, api.BadPhase
	}
	m.pods[i] = p
	return p, 0
}

// P13.1 to P13.3: in many runs of calls, the store answers as the model does.
func TestModel(t *testing.T) {
	next, met := numbers(), map[api.Code]int{}
	for range 300 {
		size := next(9)
		s, m := New(size), &model{size: size}
		for range 60 {
			id := next(12) - 2
			if next(3) == 0 {
				p := of(id, next(5))
				p.Phase, p.Node, p.Deadline = next(7), next(5)-1, next(5)-1
				want, code := m.submit(p)
				got, err := s.Submit(p)
				answers(t, got, err, want, code)
				met[code]++
			} else {
				event, node, deadline := next(7), next(6)-1, next(9)-1
				want, code := m.apply(id, event, node, deadline)
				got, err := s.Apply(id, event, node, deadline)
				answers(t, got, err, want, code)
				met[code]++
			}
			if holds(t, s, m.pods...); t.Failed() {
				t.FailNow()
			}
		}
	}
	for _, code := range []api.Code{0, api.Duplicate, api.Full, api.Unknown, api.BadPhase} {
		if met[code] < 100 {
			t.Error(code, "was met", met[code], "times")
		}
	}
}

// P13.4: each pod is in exactly one phase, and is bound and freed at most once.
func TestOnePhaseAndOneBind(t *testing.T) {
	next, evicted := numbers(), 0
	for range 200 {
		s := New(5)
		for id := range 5 {
			submit(t, s, of(id, 0))
		}
		applied := map[[2]int]int{}
		for range 100 {
			id, event := next(5), 1+next(5)
			if _, err := s.Apply(id, event, next(3), next(9)); err == nil {
				applied[[2]int{id, event}]++
			}
			seen, counted := map[int]int{}, 0
			for phase := api.Pending; phase <= api.Gone; phase++ {
				counted += s.Count(phase)
				for _, p := range s.With(phase) {
					seen[p.ID]++
				}
			}
			for id := range 5 {
				if seen[id] != 1 || counted != 5 {
					t.Fatal(seen, counted)
				}
			}
		}
		for id := range 5 {
			binds, evicts, frees := applied[[2]int{id, phase.Bind}], applied[[2]int{id, phase.Evict}], applied[[2]int{id, phase.Free}]
			if binds > 1 || evicts > binds || frees > 1 {
				t.Fatal(id, binds, evicts, frees)
			}
			evicted += evicts
		}
	}
	if evicted < 100 {
		t.Error(evicted, "were evicted")
	}
}

// On a nil Store, Submit and Apply return a zero Pod and the api.Fault with the code Unknown and the At 0, and the other methods zero values.
func TestNil(t *testing.T) {
	var s *Store
	for _, id := range []int{0, 1, -1, math.MaxInt} {
		lacks(t, s, id)
		p, err := s.Submit(of(id, 0))
		answers(t, p, err, api.Pod{}, api.Unknown)
	}
	holds(t, s)
}
