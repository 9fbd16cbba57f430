package choose

import (
	"cmp"
	"math"
	"reflect"
	"slices"
	"testing"

	"hammock/api"
	"hammock/cluster"
	"hammock/load"
	"hammock/phase"
	"hammock/rank"
	"hammock/victims"
)

// vector returns its arguments.
func vector(v ...int64) []int64 { return v }

// has returns a node with an ID and a capacity.
func has(id int, capacity ...int64) api.Node { return api.Node{ID: id, Capacity: capacity} }

// asks returns a pod with an ID, a priority and a request, as it is before Submit.
func asks(id, priority int, request ...int64) api.Pod {
	return api.Pod{ID: id, Priority: priority, Request: request}
}

// made returns a cluster of a dimension with nodes. It must be right.
func made(t *testing.T, dims int, nodes ...api.Node) *cluster.Cluster {
	t.Helper()
	c := cluster.New(dims)
	for _, n := range nodes {
		if err := c.AddNode(n); err != nil {
			t.Fatal(n, err)
		}
	}
	return c
}

// place submits a pod and applies events with a node to it, which must apply.
func place(t *testing.T, c *cluster.Cluster, p api.Pod, node int, events ...int) {
	t.Helper()
	if _, err := c.Submit(p); err != nil {
		t.Fatal(p, err)
	}
	for _, event := range events {
		var err error
		switch event {
		case phase.Bind:
			_, err = c.Bind(p.ID, node)
		case phase.Claim:
			_, err = c.Claim(p.ID, node)
		default:
			_, err = c.Change(p.ID, event, 50)
		}
		if err != nil {
			t.Fatal(p, event, err)
		}
	}
}

// ready returns a cluster of the dimension 1, with a node for each list of priorities: the nodes 1, 2 and so on have the capacity 10, which pods with these priorities share. The IDs of the pods of the node n are 10n, 10n+1 and so on.
func ready(t *testing.T, nodes ...[]int) *cluster.Cluster {
	t.Helper()
	c := made(t, 1)
	for i, priorities := range nodes {
		node := i + 1
		if err := c.AddNode(has(node, 10)); err != nil {
			t.Fatal(node, err)
		}
		left := int64(10)
		for k, priority := range priorities {
			request := left / int64(len(priorities)-k)
			left -= request
			place(t, c, asks(10*node+k, priority, request), node, phase.Bind)
		}
	}
	return c
}

// on returns a candidate with a node and victims with some priorities, whose IDs are 0, 1 and so on.
func on(node int, priorities ...int) Candidate {
	x := Candidate{Node: node}
	for id, priority := range priorities {
		x.Victims = append(x.Victims, asks(id, priority, 1))
	}
	return x
}

// want is a candidate of which the victims are given by their IDs.
type want struct {
	node int
	ids  []int
}

// is returns what a candidate has to be.
func is(node int, ids ...int) want { return want{node, ids} }

// same checks a candidate, whose victims must be pods of the cluster.
func same(t *testing.T, c *cluster.Cluster, what string, x Candidate, w want) {
	t.Helper()
	for _, v := range x.Victims {
		if p, ok := c.Pod(v.ID); !ok || !reflect.DeepEqual(v, p) {
			t.Error(what, "has the victim", v, "want", p)
		}
	}
	if ids := victims.IDs(x.Victims); x.Node != w.node || !slices.Equal(ids, w.ids) {
		t.Error(what, "is", x.Node, ids, "want", w)
	}
}

// all checks all candidates for a pod, and that For returns the first one with the least score.
func all(t *testing.T, c *cluster.Cluster, p api.Pod, l ...want) {
	t.Helper()
	got := All(c, p)
	if len(got) != len(l) {
		t.Fatal("the candidates for", p, "are", got, "want", l)
	}
	for i, x := range got {
		same(t, c, "a candidate", x, l[i])
	}
	x, ok := For(c, p)
	if ok != (len(l) > 0) {
		t.Error("the best candidate for", p, "is", x, ok)
	}
	if ok {
		least := slices.MinFunc(got, byScore)
		same(t, c, "the best one", x, is(least.Node, victims.IDs(least.Victims)...))
	} else {
		zero(t, x)
	}
}

// best checks the best candidate for a pod.
func best(t *testing.T, c *cluster.Cluster, p api.Pod, w want) {
	t.Helper()
	x, ok := For(c, p)
	if !ok {
		t.Error("there is no candidate for", p)
	}
	same(t, c, "the best one", x, w)
}

// zero checks that a candidate is a zero one.
func zero(t *testing.T, x Candidate) {
	t.Helper()
	if x.Node != 0 || len(x.Victims) > 0 {
		t.Error("the candidate is", x)
	}
}

// scored returns the score as the chapter defines it.
func scored(x Candidate) [4]int {
	if len(x.Victims) == 0 {
		return [4]int{0, 0, 0, x.Node}
	}
	s := [4]int{math.MinInt, 0, len(x.Victims), x.Node}
	for _, v := range x.Victims {
		s[0] = max(s[0], v.Priority)
		s[1] += v.Priority
	}
	return s
}

// byScore compares two candidates as the chapter defines it.
func byScore(a, b Candidate) int {
	x, y := scored(a), scored(b)
	return slices.Compare(x[:], y[:])
}

// The example of the chapter, as candidates and on nodes.
func TestExample(t *testing.T) {
	five, threes := on(1, 5), on(2, 3, 3)
	if Compare(five, threes) != 1 || Compare(threes, five) != -1 {
		t.Error("the order is", Compare(five, threes), Compare(threes, five))
	}
	if x, ok := Best([]Candidate{five, threes}); !ok || !reflect.DeepEqual(x, threes) {
		t.Error("the best one is", x, ok)
	}
	c := ready(t, []int{5}, []int{3, 3})
	all(t, c, asks(9, 7, 10), is(1, 10), is(2, 20, 21))
	best(t, c, asks(9, 7, 10), is(2, 20, 21))
}

// P19.1: the nodes are in ascending order, in whatever order they are added.
func TestAllOrder(t *testing.T) {
	extremes := []int{math.MinInt, -1 << 32, -7, api.None, 0, 1, 2, 9, 10, 257, 1 << 32, math.MaxInt}
	for shift := range len(extremes) {
		c := made(t, 1)
		var l []want
		for i := range extremes {
			// 5 has no factor in common with the number of nodes, so that each of them is added.
			k := (i*5 + shift) % len(extremes)
			if err := c.AddNode(has(extremes[k], 5)); err != nil {
				t.Fatal(err)
			}
			place(t, c, asks(k, 1, 5), extremes[k], phase.Bind)
		}
		for k, node := range extremes {
			l = append(l, is(node, k))
		}
		all(t, c, asks(99, 2, 5), l...)
		// The score differs in the node only, of which the least one is best.
		best(t, c, asks(99, 2, 5), is(math.MinInt, 0))
	}
}

// P19.1, P19.4: nodes on which the pod fits as it is, or that are not possible, are no candidates.
func TestAllNodes(t *testing.T) {
	c := made(t, 2, has(1, 5, 5), has(2, 5, 5), has(3, 4, 5), has(4, 5, 5), has(5, 5, 5), has(6, 9, 9), has(7, 9, 8))
	place(t, c, asks(10, 1, 1, 0), 1, phase.Bind)
	// Nothing is on the node 2, and the node 3 is too small.
	place(t, c, asks(30, 1, 1, 0), 3, phase.Bind)
	place(t, c, asks(40, 6, 1, 0), 4, phase.Bind)
	place(t, c, asks(41, 1, 1, 0), 4, phase.Bind)
	place(t, c, asks(50, 1, 0, 1), 5, phase.Bind)
	place(t, c, asks(60, 1, 4, 4), 6, phase.Bind)
	place(t, c, asks(70, 2, 4, 4), 7, phase.Bind)
	place(t, c, asks(71, 3, 1, 0), 7, phase.Bind)
	all(t, c, asks(9, 5, 5, 5), is(1, 10), is(5, 50), is(7, 70))
	all(t, c, asks(9, 2, 5, 5), is(1, 10), is(5, 50))
	all(t, c, asks(9, 3, 5, 4), is(1, 10), is(7, 70))
	all(t, c, asks(9, 9, 5, 5), is(1, 10), is(4, 40, 41), is(5, 50), is(7, 70))
	all(t, c, asks(9, 9, 6, 6), is(6, 60), is(7, 70))
	all(t, c, asks(9, 9, 9, 8), is(6, 60), is(7, 71, 70))
	all(t, c, asks(9, 9, 9, 9), is(6, 60))
	all(t, c, asks(9, 9, 9, 10))
	all(t, c, asks(9, 9, 0, 0))
	all(t, c, asks(9, 1, 9, 9))
	all(t, c, asks(9, 1, 5, 5))
}

// P19.1: the victims of each node are just enough, and in order.
func TestAllVictims(t *testing.T) {
	c := made(t, 1, has(1, 10), has(2, 10))
	for id, request := range []int64{3, 4, 3} {
		place(t, c, asks(id, 3, request), 1, phase.Bind)
	}
	for id, priority := range []int{1, 3, 2, 4} {
		place(t, c, asks(10+id, priority, 2), 2, phase.Bind)
	}
	all(t, c, asks(99, 5, 4), is(1, 1), is(2, 10))
	all(t, c, asks(99, 5, 5), is(1, 1, 2), is(2, 12, 10))
	all(t, c, asks(99, 5, 7), is(1, 1, 2), is(2, 11, 12, 10))
	all(t, c, asks(99, 5, 10), is(1, 0, 1, 2), is(2, 13, 11, 12, 10))
	all(t, c, asks(99, 4, 8), is(1, 0, 1, 2), is(2, 11, 12, 10))
	all(t, c, asks(99, 4, 9), is(1, 0, 1, 2))
	all(t, c, asks(99, 3, 4), is(2, 10))
	all(t, c, asks(99, 3, 6), is(2, 12, 10))
	all(t, c, asks(99, 3, 7))
}

// P19.1: only bound pods are victims, and reservations that the pod sees count.
func TestAllPhases(t *testing.T) {
	c := made(t, 1, has(1, 10), has(2, 10), has(3, 10), has(4, 10), has(5, 10))
	place(t, c, asks(10, 1, 10), 1, phase.Bind, phase.Evict)
	place(t, c, asks(20, 1, 9), 2, phase.Bind, phase.Evict)
	place(t, c, asks(21, 1, 1), 2, phase.Bind)
	place(t, c, asks(30, 5, 9), 3, phase.Claim)
	place(t, c, asks(31, 1, 9), 3, phase.Bind)
	place(t, c, asks(40, 1, 10), 4, phase.Bind, phase.Free)
	place(t, c, asks(41, 1, 9), 4)
	place(t, c, asks(50, 1, 9), 5, phase.Claim, phase.Bind)
	all(t, c, asks(99, 5, 1), is(2, 21), is(3, 31))
	all(t, c, asks(99, 5, 2), is(5, 50))
	// A greater priority does not see the reservation, nor does the pod itself.
	all(t, c, asks(99, 6, 2), is(3, 31), is(5, 50))
	all(t, c, asks(30, 5, 2), is(3, 31), is(5, 50))
	if _, err := c.DropNode(3); err != nil {
		t.Fatal(err)
	}
	all(t, c, asks(99, 6, 2), is(5, 50))
	all(t, c, asks(99, 6, 1), is(2, 21))
}

// P19.1, P19.3: the phase and most other fields of the pod do not matter, nor whether it preempts.
func TestPodFields(t *testing.T) {
	c := ready(t, []int{5}, []int{3, 3})
	for _, phase := range []int{0, api.Pending, api.Nominated, api.Bound, api.Terminating, api.Gone, -1, math.MaxInt} {
		for _, node := range []int{0, 1, api.None} {
			for _, preempts := range []bool{false, true} {
				p := api.Pod{ID: 9, Priority: 7, Phase: phase, Node: node, Deadline: 9, Grace: 3, Arrival: 8, Preempts: preempts, Request: vector(10)}
				all(t, c, p, is(1, 10), is(2, 20, 21))
			}
		}
	}
}

// P19.1, P19.3: there are no candidates for a pod whose request is not valid.
func TestWrongRequest(t *testing.T) {
	c := made(t, 2, has(1, 9, 9), has(2, api.MaxAmount, api.MaxAmount))
	place(t, c, asks(10, 3, 4, 4), 1, phase.Bind)
	place(t, c, asks(20, 3, 4, 4), 2, phase.Bind)
	for _, request := range [][]int64{
		nil,
		{},
		{9},
		{9, 9, 0},
		{-1, 9},
		{9, -1},
		{math.MinInt64, math.MinInt64},
		{math.MaxInt64, math.MaxInt64},
		{api.MaxAmount + 1, 0},
		{0, api.MaxAmount + 1},
	} {
		all(t, c, asks(99, 5, request...))
	}
	all(t, c, asks(99, 5, 9, 9), is(1, 10))
	all(t, c, asks(99, 5, api.MaxAmount, api.MaxAmount), is(2, 20))
}

// P19.1, P19.3: a cluster without nodes or pods, or of the dimension 0, or a nil one has no candidates.
func TestNothing(t *testing.T) {
	none := made(t, 0, has(1))
	place(t, none, asks(10, 1), 1, phase.Bind)
	for _, c := range []*cluster.Cluster{nil, cluster.New(0), cluster.New(1), cluster.New(-1), made(t, 1, has(1, 5)), none} {
		for _, p := range []api.Pod{{}, asks(99, 5), asks(99, 5, 0), asks(99, 5, 5), asks(99, 5, 6), asks(99, math.MaxInt, -1)} {
			all(t, c, p)
		}
	}
}

// P19.2: the score is the greatest priority, the sum, the number, and the node.
func TestScore(t *testing.T) {
	for _, x := range []struct {
		of   Candidate
		want [4]int
	}{
		{Candidate{}, [4]int{}},
		{on(7), [4]int{0, 0, 0, 7}},
		{Candidate{-3, []api.Pod{}}, [4]int{0, 0, 0, -3}},
		{on(7, 5), [4]int{5, 5, 1, 7}},
		{on(8, 3, 3), [4]int{3, 6, 2, 8}},
		{on(0, 1, 4, 2), [4]int{4, 7, 3, 0}},
		{on(0, 4, 2, 1), [4]int{4, 7, 3, 0}},
		{on(0, 2, 1, 4), [4]int{4, 7, 3, 0}},
		{on(1, 0), [4]int{0, 0, 1, 1}},
		{on(1, -5), [4]int{-5, -5, 1, 1}},
		{on(1, -5, -2, -9), [4]int{-2, -16, 3, 1}},
		{on(1, -5, 5), [4]int{5, 0, 2, 1}},
		{on(math.MinInt, api.MaxPriority, -api.MaxPriority), [4]int{api.MaxPriority, 0, 2, math.MinInt}},
		{on(math.MaxInt, -api.MaxPriority, -api.MaxPriority), [4]int{-api.MaxPriority, -2 * api.MaxPriority, 2, math.MaxInt}},
	} {
		if got := Score(x.of); got != x.want {
			t.Error("the score of", x.of, "is", got, "want", x.want)
		}
	}
}

// P19.2: of the victims only the priorities matter, also if an ID occurs several times.
func TestScoreFields(t *testing.T) {
	x := Candidate{4, []api.Pod{
		{ID: 9, Priority: 3, Node: 8, Arrival: 70, Phase: api.Gone, Grace: 50, Deadline: 60, Request: vector(100), Preempts: true},
		{ID: 9, Priority: 2, Node: -1, Request: vector(-5, math.MaxInt64)},
		{ID: 9, Priority: 2},
	}}
	if got := Score(x); got != [4]int{3, 7, 3, 4} {
		t.Error("the score is", got)
	}
}

// P19.2: the priorities of as many victims as there may be do not overflow.
func TestScoreGreat(t *testing.T) {
	for _, priority := range []int{-api.MaxPriority, api.MaxPriority} {
		x := Candidate{1, slices.Repeat([]api.Pod{{Priority: priority}}, api.MaxPods)}
		want := [4]int{priority, priority * api.MaxPods, api.MaxPods, 1}
		if got := Score(x); got != want {
			t.Error("the score is", got, "want", want)
		}
		fewer := Candidate{1, x.Victims[1:]}
		if got := Compare(fewer, x); got != cmp.Compare(0, priority) {
			t.Error("one victim less compares as", got)
		}
	}
}

// ascending returns candidates whose scores are in ascending order, and different.
func ascending() []Candidate {
	return []Candidate{
		on(math.MaxInt, -api.MaxPriority, -api.MaxPriority),
		on(1, -api.MaxPriority),
		// The greatest priority counts first, whatever the others are.
		on(9, -7),
		on(9, -6, -6),
		on(0, -6),
		on(9, 0, -2),
		on(9, -1, 0),
		// No victims have the numbers of one whose priority is 0, and are fewer.
		on(math.MinInt),
		on(-1),
		on(0),
		on(3),
		on(math.MaxInt),
		on(1, 0),
		on(0, 0, 0),
		// Then the sum counts, whatever the number and the node are.
		on(8, 3, -9, -9, -9),
		on(7, 3, -5, 3),
		on(6, -1, 3),
		// Then the number counts, whatever the node is.
		on(8, 3),
		on(2, 3, 0),
		on(1, 3, 0, 0),
		on(0, 0, 3, 1, -1),
		// Then the node counts.
		on(1, 0, 3, -1, 1),
		on(2, 1, 3, 0, -1),
		on(300, 0, 0, 0, 3),
		on(1, 3, 3),
		on(0, 5),
		on(0, api.MaxPriority, -api.MaxPriority),
		on(0, api.MaxPriority),
		on(0, api.MaxPriority, api.MaxPriority),
	}
}

// P19.2: scores are compared by the first number that is different.
func TestCompare(t *testing.T) {
	l := ascending()
	for i, a := range l {
		for k, b := range l {
			if got := Compare(a, b); got != cmp.Compare(i, k) {
				t.Error("the scores", Score(a), "and", Score(b), "compare as", got)
			}
		}
	}
	if got := Compare(on(5, 1, 4, 2), on(5, 4, 2, 1)); got != 0 {
		t.Error("the same victims compare as", got)
	}
	// The victims are different, and the score is the same.
	if got := Compare(on(5, 4, 1, 3), on(5, 2, 2, 4)); got != 0 {
		t.Error("the same scores compare as", got)
	}
}

// P19.3: there is no best candidate without candidates.
func TestBestNone(t *testing.T) {
	for _, l := range [][]Candidate{nil, {}, []Candidate{on(3, 1)}[:0]} {
		x, ok := Best(l)
		if ok {
			t.Error("there is a candidate")
		}
		zero(t, x)
	}
}

// P19.3: the best candidate has the least score, at whatever index it is, and a list with one candidate has this one.
func TestBest(t *testing.T) {
	for l := ascending(); len(l) > 0; l = l[1:] {
		for shift := range l {
			turned := slices.Concat(l[shift:], l[:shift])
			if x, ok := Best(turned); !ok || !reflect.DeepEqual(x, l[0]) {
				t.Error("the best one is", x, ok, "want", l[0])
			}
			slices.Reverse(turned)
			if x, ok := Best(turned); !ok || !reflect.DeepEqual(x, l[0]) {
				t.Error("in reverse the best one is", x, ok, "want", l[0])
			}
		}
		if x, ok := Best(l[:1]); !ok || !reflect.DeepEqual(x, l[0]) {
			t.Error("the only one is", x, ok, "want", l[0])
		}
	}
	// It is a candidate even if it looks like none.
	if x, ok := Best([]Candidate{on(1), {}, on(0, 0)}); !ok || x.Node != 0 || len(x.Victims) > 0 {
		t.Error("the best one is", x, ok)
	}
}

// P19.3: of several candidates with the least score, the first one is the best.
func TestBestFirst(t *testing.T) {
	a, b, c := on(5, 4, 1, 3), on(5, 2, 2, 4), on(5, 3, 1, 4)
	for _, l := range [][]Candidate{{a, b, c}, {b, a, c}, {c, b, a}, {b, b, a}} {
		for _, others := range [][]Candidate{nil, {on(6, 4, 1, 3)}, {on(0, 5), on(5, 4, 4, 1)}} {
			for _, list := range [][]Candidate{slices.Concat(others, l), slices.Concat(l[:1], others, l[1:]), slices.Concat(l, others)} {
				if x, ok := Best(list); !ok || !reflect.DeepEqual(x, l[0]) {
					t.Error("the best one is", x, ok, "want", l[0])
				}
			}
		}
	}
}

// P19.3: each number of the score decides between nodes, if those before it are the same.
func TestForOrder(t *testing.T) {
	for _, x := range []struct {
		nodes [][]int
		want  int
	}{
		{[][]int{{5}, {3, 3}}, 2},
		{[][]int{{3, 3}, {5}}, 1},
		{[][]int{{4}, {3, 3, 3, 3}}, 2},
		{[][]int{{-1}, {-2, -2}, {-3, -1}}, 2},
		{[][]int{{3, 3}, {3, 2}, {2, 3}, {3, 2, 1}}, 2},
		{[][]int{{3, 3}, {3, 2, 1}, {3, 2, 2}}, 1},
		{[][]int{{3, 2, 1}, {3, 3}, {3, 2, 2}}, 2},
		{[][]int{{3, 0}, {3}}, 2},
		{[][]int{{3, 0}, {3, -1, 1}, {3}}, 3},
		{[][]int{{3, 0, 0}, {3, 0}, {3, 0}}, 2},
		{[][]int{{3}, {3, -1}, {3, -2, 1}}, 2},
		{[][]int{{2}, {2}, {2}}, 1},
		{[][]int{{9}, {2}, {2}, {3}}, 2},
		{[][]int{{8}, {2, 8}, {7, 7}}, 3},
	} {
		c := ready(t, x.nodes...)
		// The request is that of all pods of a node.
		p := asks(999, 9, 10)
		got, ok := For(c, p)
		if !ok || got.Node != x.want || len(got.Victims) != len(x.nodes[x.want-1]) {
			t.Error("the best one of", x.nodes, "is", got, ok, "want", x.want)
		}
	}
}

// P19.3: only what has to go counts, not all lower pods of a node.
func TestForVictims(t *testing.T) {
	c := ready(t, []int{3, 3}, []int{5, 1}, []int{9, 0})
	all(t, c, asks(99, 9, 5), is(1, 11), is(2, 21), is(3, 31))
	best(t, c, asks(99, 9, 5), is(3, 31))
	best(t, c, asks(99, 10, 5), is(3, 31))
	best(t, c, asks(99, 10, 6), is(1, 10, 11))
	best(t, c, asks(99, 3, 5), is(3, 31))
	all(t, c, asks(99, 3, 6))
}

// Rule 5: arguments are not changed, and results share no memory with them, the cluster or each other.
func TestResultsAreCopies(t *testing.T) {
	c := ready(t, []int{5, 4}, []int{3, 3})
	request := []int64{10, 77}
	p := asks(99, 9, request[:1]...)
	spoil := func(x Candidate) {
		for i := range x.Victims {
			x.Victims[i].Request[0] = 99
			x.Victims[i].Priority = 99
		}
	}
	for range 2 {
		l, again := All(c, p), All(c, p)
		x, _ := For(c, p)
		spoil(x)
		spoil(l[0])
		same(t, c, "the other one", l[1], is(2, 20, 21))
		spoil(l[1])
		same(t, c, "again", again[0], is(1, 10, 11))
		all(t, c, p, is(1, 10, 11), is(2, 20, 21))
	}
	if !slices.Equal(request, vector(10, 77)) {
		t.Error("the request is", request)
	}

	// The second victim and the second amount are beyond the lengths of their slices.
	amounts := vector(5, 6)
	pods := []api.Pod{asks(1, 3, amounts[:1]...), asks(2, 4, 7)}
	l := []Candidate{{1, pods[:1]}, on(2, 9)}
	for range 2 {
		x, ok := Best(l)
		if !ok || !reflect.DeepEqual(x, Candidate{1, []api.Pod{asks(1, 3, 5)}}) {
			t.Error("the best one is", x, ok)
		}
		spoil(x)
		x.Victims[0].Request = append(x.Victims[0].Request, 99)
		x.Victims = append(x.Victims, api.Pod{ID: 99})
		Score(l[0])
		Compare(l[0], l[1])
	}
	if !slices.Equal(amounts, vector(5, 6)) || !reflect.DeepEqual(pods, []api.Pod{asks(1, 3, 5), asks(2, 4, 7)}) || !reflect.DeepEqual(l[1], on(2, 9)) {
		t.Error("the list is", l, "of", pods, "with", amounts)
	}
}

// P19.1, P19.3: as many nodes as there may be, and as many pods on one of them, are looked at.
func TestMany(t *testing.T) {
	c := made(t, 1)
	for id := range api.MaxNodes {
		if err := c.AddNode(has(id, 5)); err != nil {
			t.Fatal(err)
		}
		place(t, c, asks(id, -id, 5), id, phase.Bind)
	}
	l := All(c, asks(-1, 1, 5))
	if len(l) != api.MaxNodes || !slices.IsSortedFunc(l, func(a, b Candidate) int { return cmp.Compare(a.Node, b.Node) }) {
		t.Error("there are", len(l), "candidates")
	}
	best(t, c, asks(-1, 1, 5), is(api.MaxNodes-1, api.MaxNodes-1))

	c = made(t, 1, has(7, api.MaxPods))
	for id := range api.MaxPods {
		place(t, c, asks(id, -api.MaxPriority, 1), 7, phase.Bind)
	}
	x, ok := For(c, asks(-1, 0, api.MaxPods))
	if !ok || Score(x) != [4]int{-api.MaxPriority, -api.MaxPriority * api.MaxPods, api.MaxPods, 7} {
		t.Error("the score is", Score(x), ok)
	}
}

// numbers returns a function whose results are the same in every run.
func numbers() func(below int) int {
	x := uint64(1)
	return func(below int) int {
		x = x*6364136223846793005 + 1442695040888963407
		return int(x>>33) % below
	}
}

// crowd returns a cluster with nodes 0 to 5, on which there are pods 0 to 39 in many phases.
func crowd(t *testing.T, next func(int) int) *cluster.Cluster {
	t.Helper()
	c := made(t, 2)
	for i := range 6 {
		// Another order than that of the IDs, since 5 has no factor in common with 6.
		if err := c.AddNode(has(i*5%6, int64(8+next(12)), int64(8+next(12)))); err != nil {
			t.Fatal(err)
		}
	}
	for i := range 40 {
		id, node := i*7%40, next(6)
		place(t, c, asks(id, next(5)-1, int64(next(6)), int64(next(6))), 0)
		if next(6) == 0 {
			if _, err := c.Claim(id, node); err != nil {
				t.Fatal(err)
			}
			continue
		}
		// Some do not fit, and stay pending.
		if _, err := c.Bind(id, node); err == nil && next(6) == 0 {
			if _, err := c.Change(id, phase.Evict, 50); err != nil {
				t.Fatal(err)
			}
		}
	}
	return c
}

// defined returns the candidates as the chapters 18 and 19 define them.
func defined(c *cluster.Cluster, p api.Pod) []want {
	var l []want
	for node := range 6 {
		var lower []api.Pod
		for _, q := range c.Pods() {
			if q.Phase == api.Bound && q.Node == node && q.Priority < p.Priority {
				lower = append(lower, q)
			}
		}
		slices.SortFunc(lower, rank.Compare)
		still := victims.IDs(lower)
		if !load.Fits(c, p, node, still...) {
			continue
		}
		for _, q := range lower {
			others := slices.DeleteFunc(slices.Clone(still), func(id int) bool { return id == q.ID })
			if load.Fits(c, p, node, others...) {
				still = others
			}
		}
		if len(still) > 0 {
			l = append(l, want{node, still})
		}
	}
	return l
}

// P19.1 to P19.3: in crowded clusters the candidates, the scores and the best one are those that the definitions give.
func TestDefinitions(t *testing.T) {
	next := numbers()
	counts := map[int]int{}
	for range 100 {
		c := crowd(t, next)
		for id := range 45 {
			p := asks(id, next(7)-1, int64(next(16)), int64(next(16)))
			all(t, c, p, defined(c, p)...)
			l := All(c, p)
			counts[min(len(l), 2)]++
			for _, a := range l {
				if Score(a) != scored(a) {
					t.Error("the score of", a, "is", Score(a))
				}
				for _, b := range l {
					if Compare(a, b) != byScore(a, b) {
						t.Error("the candidates", a, b, "compare as", Compare(a, b))
					}
				}
			}
		}
	}
	for n := range 3 {
		if counts[n] < 300 {
			t.Error("too few cases:", counts)
		}
	}
}

// P19.4: the order of the list does not matter for the least score, and a pod fits on no candidate as it is.
func TestConsequences(t *testing.T) {
	next := numbers()
	for range 100 {
		c := crowd(t, next)
		p := asks(next(45), 3+next(3), int64(next(16)), int64(next(16)))
		l := All(c, p)
		for _, x := range l {
			if load.Fits(c, p, x.Node) {
				t.Error(p, "fits on", x.Node)
			}
			if !victims.Minimal(c, p, x.Node, x.Victims) {
				t.Error("the victims", x.Victims, "are not minimal")
			}
		}
		least, ok := For(c, p)
		for range 10 {
			for i := range l {
				k := next(i + 1)
				l[i], l[k] = l[k], l[i]
			}
			if x, found := Best(l); found != ok || !reflect.DeepEqual(x, least) {
				t.Error("the best one is", x, found, "want", least, ok)
			}
		}
	}
}
