package reserve

import (
	"math"
	"slices"
	"testing"

	"hammock/api"
	"hammock/cluster"
	"hammock/phase"
)

// nodes are the IDs of the nodes of the clusters, of which every node has room for every pod.
var nodes = []int{3, 7, api.None, math.MaxInt}

// vector returns its arguments.
func vector(v ...int64) []int64 { return v }

// asks returns a pod with an ID and a priority that asks for reservations, as it is before Submit.
func asks(id, priority int) api.Pod { return api.Pod{ID: id, Priority: priority} }

// claims returns a pod with an ID and a priority that is nominated on a node.
func claims(id, priority, node int) api.Pod {
	return api.Pod{ID: id, Priority: priority, Phase: api.Nominated, Node: node, Deadline: api.None}
}

// same reports whether two pods have the same fields.
func same(p, q api.Pod) bool {
	equal := slices.Equal(p.Request, q.Request)
	return equal && p.ID == q.ID && p.Priority == q.Priority && p.Preempts == q.Preempts && p.Grace == q.Grace &&
		p.Arrival == q.Arrival && p.Phase == q.Phase && p.Node == q.Node && p.Deadline == q.Deadline
}

// made returns a cluster of a dimension with the nodes, and with pods that are pending. It must be right.
func made(t *testing.T, dims int, pods ...api.Pod) *cluster.Cluster {
	t.Helper()
	c := cluster.New(dims)
	for _, id := range nodes {
		capacity := make([]int64, dims)
		for i := range capacity {
			capacity[i] = api.MaxAmount
		}
		if err := c.AddNode(api.Node{ID: id, Capacity: capacity}); err != nil {
			t.Fatal(id, err)
		}
	}
	for _, p := range pods {
		if _, err := c.Submit(p); err != nil {
			t.Fatal(p, err)
		}
	}
	return c
}

// run applies events with a node to a pod, which must apply.
func run(t *testing.T, c *cluster.Cluster, id, node int, events ...int) {
	t.Helper()
	for _, event := range events {
		var err error
		switch event {
		case phase.Bind:
			_, err = c.Bind(id, node)
		case phase.Claim:
			_, err = c.Claim(id, node)
		default:
			_, err = c.Change(id, event, 50)
		}
		if err != nil {
			t.Fatal(id, event, err)
		}
	}
}

// ids checks that pods have IDs, in their order.
func ids(t *testing.T, what string, l []api.Pod, want ...int) {
	t.Helper()
	var got []int
	for _, p := range l {
		got = append(got, p.ID)
	}
	if !slices.Equal(got, want) {
		t.Error(what, "has the pods", got, "want", want)
	}
}

// sums checks a sum.
func sums(t *testing.T, c *cluster.Cluster, p api.Pod, node int, want ...int64) {
	t.Helper()
	if got := Sum(c, p, node); !slices.Equal(got, want) {
		t.Error("sum for", p, "on", node, "is", got, "want", want)
	}
}

// P15.1: a pod sees the reservation of another one whose priority is not less.
func TestSeesPriorities(t *testing.T) {
	for _, x := range []struct {
		mine, other int
		want        bool
	}{
		{5, 5, true},
		{5, 6, true},
		{5, 7, true},
		{5, 4, false},
		{0, 0, true},
		{0, -1, false},
		{-1, -1, true},
		{-1, 0, true},
		{1, 257, true},
		{257, 1, false},
		{1 << 32, 1, false},
		{1, 1 << 32, true},
		{api.MaxPriority, api.MaxPriority, true},
		{math.MinInt, math.MaxInt, true},
		{math.MaxInt, math.MinInt, false},
		{math.MaxInt, math.MaxInt, true},
		{math.MinInt, math.MinInt, true},
	} {
		if got := Sees(asks(1, x.mine), claims(2, x.other, 7), 7); got != x.want {
			t.Error(x.mine, x.other, got)
		}
	}
}

// P15.1: a pod does not see the reservation of a pod with its own ID.
func TestSeesOthers(t *testing.T) {
	all := []int{0, 1, 2, -1, 256, 1 << 32, api.MaxID, math.MinInt, math.MaxInt}
	for _, mine := range all {
		for _, other := range all {
			for _, priority := range []int{5, 6} {
				if got := Sees(asks(mine, 5), claims(other, priority, 7), 7); got != (mine != other) {
					t.Error(mine, other, priority, got)
				}
			}
		}
	}
}

// P15.1: only a pod that is nominated has a reservation.
func TestSeesPhases(t *testing.T) {
	for _, phase := range []int{api.Pending, api.Nominated, api.Bound, api.Terminating, api.Gone, 0, 6, -1, 258, math.MinInt, math.MaxInt} {
		q := claims(2, 5, 7)
		q.Phase = phase
		if got := Sees(asks(1, 5), q, 7); got != (phase == api.Nominated) {
			t.Error(phase, got)
		}
	}
}

// P15.1: a reservation is on the node of its pod only.
func TestSeesNodes(t *testing.T) {
	all := []int{0, 7, 8, 263, api.None, 7 + 1<<32, math.MinInt, math.MaxInt}
	for _, of := range all {
		for _, node := range all {
			if got := Sees(asks(1, 5), claims(2, 5, of), node); got != (of == node) {
				t.Error(of, node, got)
			}
		}
	}
}

// P15.1: no other field counts, and neither does what the asking pod is.
func TestSeesFields(t *testing.T) {
	p, q := asks(1, 5), claims(2, 5, 7)
	for range 2 {
		for _, phase := range []int{0, api.Pending, api.Nominated, api.Bound, api.Terminating, api.Gone} {
			for _, node := range []int{0, 7, api.None} {
				p.Phase, p.Node = phase, node
				if !Sees(p, q, 7) {
					t.Error("not seen:", p, q)
				}
				if Sees(p, claims(2, 4, 7), 7) {
					t.Error("seen:", p)
				}
			}
		}
		p.Preempts, p.Grace, p.Arrival, p.Deadline, p.Request = true, 9, 8, 7, vector(1, 2)
		q.Preempts, q.Grace, q.Arrival, q.Deadline, q.Request = true, 3, 9, 7, vector(3)
	}
}

// P15.2: the example of the chapter.
func TestExample(t *testing.T) {
	c := made(t, 1,
		api.Pod{ID: 1, Priority: 5, Request: vector(1)},
		api.Pod{ID: 2, Priority: 7, Request: vector(10)},
		api.Pod{ID: 3, Priority: 4, Request: vector(100)},
		api.Pod{ID: 4, Priority: 5, Request: vector(1000)},
	)
	for id := 1; id <= 4; id++ {
		run(t, c, id, 7, phase.Claim)
	}
	p, _ := c.Pod(4)
	ids(t, "the node 7", Pods(c, p, 7), 1, 2)
	sums(t, c, p, 7, 11)
	ids(t, "the node 3", Pods(c, p, 3))
	sums(t, c, p, 3, 0)
}

// P15.2: the pods are in the order of their Arrivals, whatever their IDs and priorities are, and in which order they were nominated.
func TestPodsOrder(t *testing.T) {
	c := made(t, 1,
		api.Pod{ID: 9, Priority: 5, Request: vector(1)},
		api.Pod{ID: 2, Priority: 7, Request: vector(1)},
		api.Pod{ID: 8, Priority: 5, Request: vector(1)},
		api.Pod{ID: -3, Priority: 9, Request: vector(1)},
		api.Pod{ID: 4, Priority: 6, Request: vector(1)},
	)
	for _, id := range []int{4, -3, 2, 9, 8} {
		run(t, c, id, 3, phase.Claim)
	}
	ids(t, "the node 3", Pods(c, asks(1, 5), 3), 9, 2, 8, -3, 4)
	ids(t, "the node 3, from 6", Pods(c, asks(1, 6), 3), 2, -3, 4)
	ids(t, "the node 3, without 8", Pods(c, asks(8, 5), 3), 9, 2, -3, 4)
	ids(t, "all", All(c), 9, 2, 8, -3, 4)
}

// P15.2: the pods are whole, with the fields that the cluster knows.
func TestPodsFields(t *testing.T) {
	c := made(t, 2, api.Pod{ID: 1, Request: vector(1, 1)}, api.Pod{ID: 2, Priority: 6, Preempts: true, Grace: 4, Request: vector(3, 5)})
	run(t, c, 2, 7, phase.Claim)
	want := api.Pod{ID: 2, Priority: 6, Preempts: true, Grace: 4, Request: vector(3, 5), Arrival: 1, Phase: api.Nominated, Node: 7, Deadline: api.None}
	for _, l := range [][]api.Pod{Pods(c, asks(1, 6), 7), All(c)} {
		if len(l) != 1 || !same(l[0], want) {
			t.Error(l, "want", want)
		}
	}
}

// P15.2: the ID and the priority are those of the pod that is given, whatever the cluster knows of it.
func TestPodsOfAnyPod(t *testing.T) {
	c := made(t, 1, api.Pod{ID: 1, Priority: 5, Request: vector(2)}, api.Pod{ID: 2, Priority: 7, Request: vector(3)})
	run(t, c, 1, 7, phase.Claim)
	run(t, c, 2, 7, phase.Claim)
	for _, x := range []struct {
		p    api.Pod
		want []int
		sum  int64
	}{
		{asks(1, 5), []int{2}, 3},
		{asks(1, 7), []int{2}, 3},
		{asks(1, 8), nil, 0},
		{asks(2, 0), []int{1}, 2},
		{asks(2, 6), nil, 0},
		{asks(99, 5), []int{1, 2}, 5},
		{asks(99, 6), []int{2}, 3},
		{asks(99, math.MaxInt), nil, 0},
		{asks(99, math.MinInt), []int{1, 2}, 5},
		// A request of another dimension is not used.
		{api.Pod{ID: 99, Request: vector(-1, math.MaxInt64)}, []int{1, 2}, 5},
		{api.Pod{}, []int{1, 2}, 5},
	} {
		ids(t, "the node 7", Pods(c, x.p, 7), x.want...)
		sums(t, c, x.p, 7, x.sum)
	}
}

// runs are runs of events that apply, with whether the pod is nominated afterwards.
func runs() []struct {
	events    []int
	nominated bool
} {
	return []struct {
		events    []int
		nominated bool
	}{
		{nil, false},
		{[]int{phase.Claim}, true},
		{[]int{phase.Claim, phase.Claim}, true},
		{[]int{phase.Claim, phase.Clear}, false},
		{[]int{phase.Claim, phase.Clear, phase.Claim}, true},
		{[]int{phase.Bind}, false},
		{[]int{phase.Claim, phase.Bind}, false},
		{[]int{phase.Bind, phase.Evict}, false},
		{[]int{phase.Free}, false},
		{[]int{phase.Claim, phase.Free}, false},
		{[]int{phase.Bind, phase.Evict, phase.Free}, false},
	}
}

// P15.1 to P15.3: a pod has a reservation exactly while it is nominated, on its node.
func TestReservationWhileNominated(t *testing.T) {
	for _, x := range runs() {
		for _, node := range nodes {
			c := made(t, 1, api.Pod{ID: 2, Priority: 5, Request: vector(3)})
			run(t, c, 2, node, x.events...)
			var want []int
			if x.nominated {
				want = []int{2}
			}
			ids(t, "the cluster", All(c), want...)
			owns(t, c, 2, node, x.nominated)
			for _, other := range nodes {
				if other != node {
					ids(t, "another node", Pods(c, asks(1, 5), other))
					sums(t, c, asks(1, 5), other, 0)
				}
			}
			ids(t, "the node", Pods(c, asks(1, 5), node), want...)
			sums(t, c, asks(1, 5), node, int64(3*len(want)))
		}
	}
}

// owns checks what Own returns: a node and true, or 0 and false.
func owns(t *testing.T, c *cluster.Cluster, id, node int, want bool) {
	t.Helper()
	if !want {
		node = 0
	}
	if got, ok := Own(c, id); got != node || ok != want {
		t.Error("node of", id, "is", got, ok, "want", node, want)
	}
}

// P15.3: a pod that is not in the cluster has no node.
func TestOwnUnknown(t *testing.T) {
	c := made(t, 1, api.Pod{ID: 2, Request: vector(3)})
	run(t, c, 2, 7, phase.Claim)
	for _, id := range []int{0, 1, 3, -1, -2, 258, 2 + 1<<32, math.MinInt, math.MaxInt} {
		owns(t, c, id, 0, false)
	}
	owns(t, c, 2, 7, true)
}

// P15.3: a pod that is nominated again has its last node, and one whose node is removed has none.
func TestReservationMoves(t *testing.T) {
	c := made(t, 1, api.Pod{ID: 2, Request: vector(3)}, api.Pod{ID: 4, Request: vector(5)})
	run(t, c, 2, 7, phase.Claim)
	run(t, c, 4, 7, phase.Claim)
	run(t, c, 2, 3, phase.Claim)
	owns(t, c, 2, 3, true)
	owns(t, c, 4, 7, true)
	ids(t, "the node 3", Pods(c, asks(1, 0), 3), 2)
	ids(t, "the node 7", Pods(c, asks(1, 0), 7), 4)
	ids(t, "all", All(c), 2, 4)
	if _, err := c.DropNode(3); err != nil {
		t.Fatal(err)
	}
	owns(t, c, 2, 0, false)
	owns(t, c, 4, 7, true)
	ids(t, "no node", Pods(c, asks(1, 0), 3))
	ids(t, "all", All(c), 4)
	sums(t, c, asks(1, 0), 3, 0)
	sums(t, c, asks(1, 0), 7, 5)
}

// P15.2: without reservations the sum has zeros, in the dimension of the cluster.
func TestSumOfNothing(t *testing.T) {
	for dims := range api.MaxDims + 1 {
		c := made(t, dims)
		for _, node := range []int{3, 99, -5, math.MinInt} {
			sums(t, c, asks(1, 0), node, make([]int64, dims)...)
		}
	}
	sums(t, cluster.New(-2), asks(1, 0), 7)
}

// P15.2: sums are made element by element, and have room for the greatest amounts of many pods.
func TestSumElements(t *testing.T) {
	const many = 3000
	c := made(t, 3)
	for i := range many {
		if _, err := c.Submit(api.Pod{ID: i, Request: vector(api.MaxAmount, 0, int64(i))}); err != nil {
			t.Fatal(err)
		}
		run(t, c, i, 7, phase.Claim)
	}
	sums(t, c, asks(many, 0), 7, many*api.MaxAmount, 0, many*(many-1)/2)
	sums(t, c, asks(5, 0), 7, (many-1)*api.MaxAmount, 0, many*(many-1)/2-5)
}

// P15.2: a cluster of the dimension 0 has pods with reservations, too.
func TestNoDimension(t *testing.T) {
	c := made(t, 0, api.Pod{ID: 2})
	run(t, c, 2, 7, phase.Claim)
	ids(t, "the node 7", Pods(c, asks(1, 0), 7), 2)
	sums(t, c, asks(1, 0), 7)
	owns(t, c, 2, 7, true)
}

// The chapter's promises: a nil cluster has no pods, and the dimension 0.
func TestNil(t *testing.T) {
	for _, id := range []int{0, 1, -1, math.MaxInt} {
		owns(t, nil, id, 0, false)
		for _, node := range []int{0, 7, api.None} {
			ids(t, "nil", Pods(nil, asks(id, 0), node))
			sums(t, nil, asks(id, 0), node)
		}
	}
	ids(t, "nil", All(nil))
}

// Rules 5: results share no memory with the cluster, nor with each other.
func TestResultsAreCopies(t *testing.T) {
	c := made(t, 1, api.Pod{ID: 2, Request: vector(3)}, api.Pod{ID: 4, Request: vector(5)})
	run(t, c, 2, 7, phase.Claim)
	run(t, c, 4, 7, phase.Claim)
	for _, l := range [][]api.Pod{Pods(c, asks(1, 0), 7), All(c)} {
		for i := range l {
			l[i].Request[0], l[i].ID, l[i].Node = 99, 99, 99
		}
		clear(append(l[:0], api.Pod{ID: 77}))
	}
	Sum(c, asks(4, 0), 7)[0] = 99
	Sum(c, asks(1, 0), 3)[0] = 99
	ids(t, "the node 7", Pods(c, asks(1, 0), 7), 2, 4)
	ids(t, "all", All(c), 2, 4)
	sums(t, c, asks(1, 0), 7, 8)
	sums(t, c, asks(4, 0), 7, 3)
	sums(t, c, asks(1, 0), 3, 0)
	owns(t, c, 2, 7, true)
}

// numbers returns a function whose results are the same in every run.
func numbers() func(below int) int {
	x := uint64(1)
	return func(below int) int {
		x = x*6364136223846793005 + 1442695040888963407
		return int(x>>33) % below
	}
}

// crowd returns a cluster with pods in many phases on several nodes.
func crowd(t *testing.T, next func(int) int) *cluster.Cluster {
	t.Helper()
	c := made(t, 2)
	for i := range 20 {
		// Different IDs, in another order than those of the Arrivals.
		p := api.Pod{ID: i * 7 % 20, Priority: next(4), Request: vector(int64(next(9)), int64(next(9)))}
		if _, err := c.Submit(p); err != nil {
			t.Fatal(err)
		}
		events := [][]int{nil, {phase.Bind}, {phase.Bind, phase.Evict}, {phase.Free}}
		list := []int{phase.Claim}
		if kind := next(8); kind < len(events) {
			list = events[kind]
		}
		run(t, c, p.ID, nodes[next(len(nodes))], list...)
	}
	return c
}

// P15.2: Pods and Sum say for every node what Sees says of the pods of the cluster, and All and Own what their phases say.
func TestSeesThroughout(t *testing.T) {
	next := numbers()
	for range 50 {
		c := crowd(t, next)
		var all []int
		for _, q := range c.Pods() {
			owns(t, c, q.ID, q.Node, q.Phase == api.Nominated)
			if q.Phase == api.Nominated {
				all = append(all, q.ID)
			}
		}
		ids(t, "all", All(c), all...)
		for id := range 22 {
			p := asks(id, next(5))
			for _, node := range append(nodes, 99) {
				var want []int
				sum := vector(0, 0)
				for _, q := range c.Pods() {
					if q.ID != id && q.Phase == api.Nominated && q.Node == node && q.Priority >= p.Priority {
						want = append(want, q.ID)
						sum[0] += q.Request[0]
						sum[1] += q.Request[1]
					}
				}
				ids(t, "a node", Pods(c, p, node), want...)
				sums(t, c, p, node, sum...)
			}
		}
	}
}

// P15.4: a pod with a lower priority sees every reservation that one with a higher priority sees, except for its own.
func TestLowerSeesMore(t *testing.T) {
	next := numbers()
	for range 50 {
		c := crowd(t, next)
		for _, node := range nodes {
			for low := range 22 {
				for high := range 22 {
					less := Pods(c, asks(high, 1+next(3)), node)
					more := Pods(c, asks(low, next(2)), node)
					for _, q := range less {
						if q.ID != low && q.ID != high && !slices.ContainsFunc(more, func(p api.Pod) bool { return same(p, q) }) {
							t.Fatal(low, "does not see the reservation of", q.ID, "on", node, "but", high, "does")
						}
					}
				}
			}
		}
	}
}
