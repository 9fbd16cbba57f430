package load

import (
	"math"
	"slices"
	"testing"

	"hammock/api"
	"hammock/cluster"
	"hammock/phase"
	"hammock/vec"
)

// vector returns its arguments.
func vector(v ...int64) []int64 { return v }

// asks returns a pod with an ID, a priority and a request, as it is before Submit.
func asks(id, priority int, request ...int64) api.Pod {
	return api.Pod{ID: id, Priority: priority, Request: request}
}

// made returns a cluster of a dimension with nodes. It must be right.
func made(t *testing.T, dims int, nodes ...api.Node) *cluster.Cluster {
	t.Helper()
	c := cluster.New(dims)
	for _, n := range nodes {
		if err := c.AddNode(n); err != nil {
			t.Fatal(n, err)
		}
	}
	return c
}

// place submits a pod and applies events with a node to it, which must apply.
func place(t *testing.T, c *cluster.Cluster, p api.Pod, node int, events ...int) {
	t.Helper()
	if _, err := c.Submit(p); err != nil {
		t.Fatal(p, err)
	}
	for _, event := range events {
		var err error
		switch event {
		case phase.Bind:
			_, err = c.Bind(p.ID, node)
		case phase.Claim:
			_, err = c.Claim(p.ID, node)
		default:
			_, err = c.Change(p.ID, event, 50)
		}
		if err != nil {
			t.Fatal(p, event, err)
		}
	}
}

// same checks a vector.
func same(t *testing.T, what string, got []int64, want ...int64) {
	t.Helper()
	if !slices.Equal(got, want) {
		t.Error(what, "is", got, "want", want)
	}
}

// fits checks what Fits returns.
func fits(t *testing.T, c *cluster.Cluster, p api.Pod, node int, want bool, without ...int) {
	t.Helper()
	if got := Fits(c, p, node, without...); got != want {
		t.Error(p, "fits on", node, "without", without, got, "want", want)
	}
}

// left checks what Left returns: a vector and true, or nothing and false.
func left(t *testing.T, c *cluster.Cluster, p api.Pod, node int, ok bool, want ...int64) {
	t.Helper()
	if got, is := Left(c, p, node); is != ok || !slices.Equal(got, want) {
		t.Error("left for", p, "on", node, "is", got, is, "want", want, ok)
	}
}

// The example of the chapter.
func TestExample(t *testing.T) {
	c := made(t, 1, api.Node{ID: 7, Capacity: vector(5)})
	place(t, c, asks(1, 0, 3), 7, phase.Bind)
	p := asks(2, 0, 3)
	same(t, "load", Of(c, p, 7), 3)
	fits(t, c, p, 7, false)
	same(t, "short", Short(c, p, 7), 1)
	fits(t, c, p, 7, true, 1)
	left(t, c, p, 7, true, 2)
}

// P16.1: the pods that are bound or terminating on the node are counted, and those of no other phase unless they are seen.
func TestLoadPhases(t *testing.T) {
	for _, x := range []struct {
		events     []int
		low, equal int64
	}{
		{nil, 0, 0},
		{[]int{phase.Bind}, 3, 3},
		{[]int{phase.Claim}, 0, 3},
		{[]int{phase.Claim, phase.Clear}, 0, 0},
		{[]int{phase.Claim, phase.Bind}, 3, 3},
		{[]int{phase.Bind, phase.Evict}, 3, 3},
		{[]int{phase.Bind, phase.Evict, phase.Free}, 0, 0},
		{[]int{phase.Bind, phase.Free}, 0, 0},
		{[]int{phase.Claim, phase.Free}, 0, 0},
		{[]int{phase.Free}, 0, 0},
	} {
		c := made(t, 1, api.Node{ID: 7, Capacity: vector(5)}, api.Node{ID: 8, Capacity: vector(5)})
		place(t, c, asks(1, 4, 3), 7, x.events...)
		// The pod has a reservation for pods of its priority, and none for those of a greater one.
		same(t, "load for a greater priority", Of(c, asks(2, 5), 7), x.low)
		same(t, "load for its priority", Of(c, asks(2, 4), 7), x.equal)
		same(t, "load of another node", Of(c, asks(2, 4), 8), 0)
	}
}

// P16.1: the reservations are those that the pod sees: of others, on the node, with a priority that is not less.
func TestLoadReservations(t *testing.T) {
	c := made(t, 2, api.Node{ID: 7, Capacity: vector(9, 9)}, api.Node{ID: 3, Capacity: vector(9, 9)})
	place(t, c, asks(1, 5, 1, 2), 7, phase.Claim)
	place(t, c, asks(2, 6, 2, 0), 7, phase.Claim)
	place(t, c, asks(3, 4, 4, 1), 7, phase.Bind)
	place(t, c, asks(4, 9, 0, 8), 3, phase.Claim)
	for _, x := range []struct {
		id, priority, node int
		want               []int64
	}{
		{9, 4, 7, vector(7, 3)},
		{9, 5, 7, vector(7, 3)},
		{9, 6, 7, vector(6, 1)},
		{9, 7, 7, vector(4, 1)},
		{1, 5, 7, vector(6, 1)},
		{1, 6, 7, vector(6, 1)},
		{2, 6, 7, vector(4, 1)},
		{2, 5, 7, vector(5, 3)},
		{9, 9, 3, vector(0, 8)},
		{9, 10, 3, vector(0, 0)},
		{4, 9, 3, vector(0, 0)},
	} {
		same(t, "load", Of(c, asks(x.id, x.priority), x.node), x.want...)
	}
}

// P16.1: the given pods are left out, however often they are given, and whatever other IDs are given.
func TestLoadWithout(t *testing.T) {
	c := made(t, 1, api.Node{ID: 7, Capacity: vector(1000)}, api.Node{ID: 8, Capacity: vector(1000)})
	place(t, c, asks(1, 5, 1), 7, phase.Bind)
	place(t, c, asks(2, 6, 10), 7, phase.Bind, phase.Evict)
	place(t, c, asks(-3, 0, 100), 7, phase.Bind)
	place(t, c, asks(4, 0, 500), 8, phase.Bind)
	for _, x := range []struct {
		without []int
		want    int64
	}{
		{nil, 111},
		{[]int{}, 111},
		{[]int{1}, 110},
		{[]int{2}, 101},
		{[]int{-3}, 11},
		{[]int{3}, 111},
		{[]int{4}, 111},
		{[]int{0, 99, math.MinInt, math.MaxInt, 1 << 32, 257}, 111},
		{[]int{1, 1, 1}, 110},
		{[]int{2, 1}, 100},
		{[]int{-3, 4, 2, 1}, 0},
		{[]int{99, 2, 98}, 101},
	} {
		same(t, "load", Of(c, asks(9, 9), 7, x.without...), x.want)
	}
}

// P16.1: a reservation counts even if its pod is among the given ones.
func TestWithoutKeepsReservations(t *testing.T) {
	c := made(t, 1, api.Node{ID: 7, Capacity: vector(5)})
	place(t, c, asks(1, 5, 3), 7, phase.Claim)
	place(t, c, asks(2, 5, 2), 7, phase.Bind)
	p := asks(9, 5, 3)
	same(t, "load", Of(c, p, 7, 1), 5)
	same(t, "load", Of(c, p, 7, 1, 2), 3)
	fits(t, c, p, 7, false, 1, 2)
	fits(t, c, asks(9, 6, 3), 7, true)
	fits(t, c, asks(9, 5, 2), 7, true, 1, 2)
}

// P16.1: the ID, the priority and the request are those of the pod that is given. Neither its phase nor what the cluster knows of it matters.
func TestPodItself(t *testing.T) {
	c := made(t, 1, api.Node{ID: 7, Capacity: vector(5)})
	place(t, c, asks(1, 5, 3), 7, phase.Bind)
	bound, _ := c.Pod(1)
	// Its own request counts like that of any pod, if it is bound.
	same(t, "load", Of(c, bound, 7), 3)
	fits(t, c, bound, 7, false)
	fits(t, c, bound, 7, true, 1)
	for _, phase := range []int{0, api.Pending, api.Nominated, api.Bound, api.Terminating, api.Gone, -1, math.MaxInt} {
		for _, node := range []int{0, 7, api.None} {
			p := api.Pod{ID: 2, Priority: 5, Phase: phase, Node: node, Deadline: 9, Grace: 3, Arrival: 8, Preempts: true, Request: vector(2)}
			same(t, "load", Of(c, p, 7), 3)
			fits(t, c, p, 7, true)
			left(t, c, p, 7, true, 2)
			same(t, "short", Short(c, p, 7), 0)
			p.Request = vector(3)
			fits(t, c, p, 7, false)
			same(t, "short", Short(c, p, 7), 1)
		}
	}
}

// P16.1 to P16.3: without the node there are a load of zeros, no fit and nothing else.
func TestNoNode(t *testing.T) {
	for dims := range api.MaxDims + 1 {
		c := made(t, dims, api.Node{ID: 7, Capacity: make([]int64, dims)}, api.Node{ID: 5, Capacity: make([]int64, dims)})
		if _, err := c.DropNode(5); err != nil {
			t.Fatal(err)
		}
		p := asks(1, 0, make([]int64, dims)...)
		for _, node := range []int{5, 6, 0, -7, api.None, 7 + 1<<32, math.MinInt, math.MaxInt} {
			same(t, "load", Of(c, p, node), make([]int64, dims)...)
			same(t, "load", Of(c, p, node, 1, 2), make([]int64, dims)...)
			fits(t, c, p, node, false)
			fits(t, c, p, node, false, 1, 2)
			left(t, c, p, node, false)
			same(t, "short", Short(c, p, node))
		}
		same(t, "load", Of(c, p, 7), make([]int64, dims)...)
		fits(t, c, p, 7, true)
		left(t, c, p, 7, true, make([]int64, dims)...)
		same(t, "short", Short(c, p, 7), make([]int64, dims)...)
	}
}

// P16.1 to P16.3: a node that is removed and added again has none of its pods.
func TestNodeAgain(t *testing.T) {
	c := made(t, 1, api.Node{ID: 7, Capacity: vector(5)})
	place(t, c, asks(1, 5, 3), 7, phase.Bind)
	place(t, c, asks(2, 5, 4), 7, phase.Claim)
	p := asks(9, 5, 1)
	left(t, c, p, 7, false)
	if _, err := c.DropNode(7); err != nil {
		t.Fatal(err)
	}
	same(t, "load", Of(c, p, 7), 0)
	fits(t, c, p, 7, false)
	if err := c.AddNode(api.Node{ID: 7, Capacity: vector(1)}); err != nil {
		t.Fatal(err)
	}
	same(t, "load", Of(c, p, 7), 0)
	fits(t, c, p, 7, true)
	left(t, c, p, 7, true, 1)
	same(t, "short", Short(c, p, 7), 0)
}

// P16.2 and P16.3: a request that is not valid does not fit, and is not short of anything; the load and what is left do not depend on it.
func TestWrongRequest(t *testing.T) {
	c := made(t, 2, api.Node{ID: 7, Capacity: vector(api.MaxAmount, api.MaxAmount)})
	place(t, c, asks(1, 5, 3, 1), 7, phase.Bind)
	for _, request := range [][]int64{
		nil, {}, {1}, {1, 1, 1}, {0, 0, 0}, {-1, 1}, {1, -1}, {-1}, {math.MinInt64, 0}, {0, math.MinInt64},
		{api.MaxAmount + 1, 0}, {0, api.MaxAmount + 1}, {math.MaxInt64, math.MaxInt64}, make([]int64, 9),
	} {
		p := asks(9, 5, request...)
		fits(t, c, p, 7, false)
		fits(t, c, p, 7, false, 1)
		same(t, "short", Short(c, p, 7))
		same(t, "load", Of(c, p, 7), 3, 1)
		left(t, c, p, 7, true, api.MaxAmount-3, api.MaxAmount-1)
	}
	// The least and the greatest amounts are valid.
	fits(t, c, asks(9, 5, 0, 0), 7, true)
	fits(t, c, asks(9, 5, api.MaxAmount, api.MaxAmount), 7, true, 1)
	same(t, "short", Short(c, asks(9, 5, api.MaxAmount, api.MaxAmount), 7), 3, 1)
}

// P16.2 and P16.3: every element counts, and the capacity itself still fits.
func TestElements(t *testing.T) {
	c := made(t, 3, api.Node{ID: 7, Capacity: vector(5, 0, 9)})
	place(t, c, asks(1, 5, 2, 0, 4), 7, phase.Bind)
	place(t, c, asks(2, 5, 1, 0, 0), 7, phase.Claim)
	for _, x := range []struct {
		request []int64
		want    bool
		short   []int64
	}{
		{vector(0, 0, 0), true, vector(0, 0, 0)},
		{vector(2, 0, 5), true, vector(0, 0, 0)},
		{vector(3, 0, 5), false, vector(1, 0, 0)},
		{vector(2, 1, 5), false, vector(0, 1, 0)},
		{vector(2, 0, 6), false, vector(0, 0, 1)},
		{vector(0, 0, 6), false, vector(0, 0, 1)},
		{vector(4, 3, 8), false, vector(2, 3, 3)},
		{vector(api.MaxAmount, api.MaxAmount, 0), false, vector(api.MaxAmount-2, api.MaxAmount, 0)},
	} {
		fits(t, c, asks(9, 5, x.request...), 7, x.want)
		same(t, "short", Short(c, asks(9, 5, x.request...), 7), x.short...)
	}
	left(t, c, asks(9, 5), 7, true, 2, 0, 5)
}

// P16.3: nothing is left in any element, if one of them is negative, since reservations may exceed the capacity.
func TestReservedTooMuch(t *testing.T) {
	c := made(t, 2, api.Node{ID: 7, Capacity: vector(5, 5)})
	place(t, c, asks(1, 5, 0, 3), 7, phase.Bind)
	place(t, c, asks(2, 5, 1, 2), 7, phase.Claim)
	left(t, c, asks(9, 5), 7, true, 4, 0)
	place(t, c, asks(3, 6, 0, 1), 7, phase.Claim)
	left(t, c, asks(9, 5), 7, false)
	left(t, c, asks(9, 6), 7, true, 5, 1)
	left(t, c, asks(3, 5), 7, true, 4, 0)
	// Even a request of zeros does not fit then, and it is short of what is reserved too much.
	fits(t, c, asks(9, 5, 0, 0), 7, false)
	same(t, "short", Short(c, asks(9, 5, 0, 0), 7), 0, 1)
	same(t, "short", Short(c, asks(9, 5, 5, 1), 7), 1, 2)
	fits(t, c, asks(9, 5, 0, 0), 7, true, 1)
	// A node may be too small for every reservation that it has.
	place(t, c, asks(4, 9, api.MaxAmount, api.MaxAmount), 7, phase.Claim)
	left(t, c, asks(9, 9), 7, false)
	left(t, c, asks(9, 10), 7, true, 5, 2)
}

// P16.1 to P16.3: sums have room for the greatest amounts of many pods.
func TestManyPods(t *testing.T) {
	const many = 2000
	c := made(t, 2, api.Node{ID: 7, Capacity: vector(api.MaxAmount, 0)})
	var even []int
	for i := range many {
		place(t, c, asks(2*i, 5, 1, 0), 7, phase.Bind)
		place(t, c, asks(2*i+1, 5, api.MaxAmount, api.MaxAmount), 7, phase.Claim)
		even = append(even, 2*i)
	}
	p := asks(-1, 5, api.MaxAmount, 0)
	same(t, "load", Of(c, p, 7), many*api.MaxAmount+many, many*api.MaxAmount)
	same(t, "load", Of(c, p, 7, even...), many*api.MaxAmount, many*api.MaxAmount)
	same(t, "short", Short(c, p, 7), many*api.MaxAmount+many, many*api.MaxAmount)
	left(t, c, p, 7, false)
	p.Priority = 6
	left(t, c, p, 7, true, api.MaxAmount-many, 0)
	fits(t, c, p, 7, false)
	fits(t, c, p, 7, false, even[1:]...)
	fits(t, c, p, 7, true, even...)
	p.Request[0] = api.MaxAmount - many
	fits(t, c, p, 7, true)
}

// P16.1 to P16.3: in the dimension 0 every pod fits on every node.
func TestNoDimension(t *testing.T) {
	c := made(t, 0, api.Node{ID: 7})
	place(t, c, asks(1, 5), 7, phase.Bind)
	place(t, c, asks(2, 5), 7, phase.Claim)
	p := asks(9, 5)
	same(t, "load", Of(c, p, 7))
	fits(t, c, p, 7, true)
	fits(t, c, p, 7, true, 1, 2)
	left(t, c, p, 7, true)
	same(t, "short", Short(c, p, 7))
	fits(t, c, asks(9, 5, 0), 7, false)
}

// P16.1 to P16.3: a nil cluster has no nodes, and the dimension 0.
func TestNil(t *testing.T) {
	for _, p := range []api.Pod{{}, asks(1, 5), asks(1, 5, 3), asks(1, 5, -1)} {
		for _, node := range []int{0, 7, api.None, math.MinInt, math.MaxInt} {
			same(t, "load", Of(nil, p, node))
			same(t, "load", Of(nil, p, node, 1, 2))
			fits(t, nil, p, node, false)
			fits(t, nil, p, node, false, 1, 2)
			left(t, nil, p, node, false)
			same(t, "short", Short(nil, p, node))
		}
	}
}

// Rule 5: arguments are not changed, and results share no memory with them, the cluster or each other.
func TestResultsAreCopies(t *testing.T) {
	c := made(t, 1, api.Node{ID: 7, Capacity: vector(5)}, api.Node{ID: 8, Capacity: vector(4)})
	place(t, c, asks(1, 5, 3), 7, phase.Bind)
	place(t, c, asks(2, 5, 1), 7, phase.Claim)
	request, without := []int64{4, 77}, []int{2, 1, 2, 88}
	p := asks(9, 5, request[:1]...)
	for range 2 {
		of, some, none := Of(c, p, 7), Of(c, p, 7, without[:3]...), Of(c, p, 99)
		rest, _ := Left(c, p, 7)
		short, enough := Short(c, p, 7), Short(c, p, 8)
		same(t, "load", of, 4)
		same(t, "load without", some, 1)
		same(t, "load of no node", none, 0)
		same(t, "left", rest, 1)
		same(t, "short", short, 3)
		same(t, "short on 8", enough, 0)
		fits(t, c, p, 8, true)
		fits(t, c, p, 7, true, without[:3]...)
		for _, v := range [][]int64{of, some, none, rest, short, enough} {
			clear(append(v[:0], 99))
			v[0] = 99
		}
	}
	same(t, "request", request, 4, 77)
	if !slices.Equal(without, []int{2, 1, 2, 88}) {
		t.Error("the IDs are", without)
	}
	left(t, c, asks(9, 6), 7, true, 2)
	left(t, c, asks(9, 6), 8, true, 4)
}

// numbers returns a function whose results are the same in every run.
func numbers() func(below int) int {
	x := uint64(1)
	return func(below int) int {
		x = x*6364136223846793005 + 1442695040888963407
		return int(x>>33) % below
	}
}

// crowd returns a cluster with nodes 0 to 3, on which there are pods 0 to 19 in many phases.
func crowd(t *testing.T, next func(int) int) *cluster.Cluster {
	t.Helper()
	c := made(t, 2)
	for id := range 4 {
		if err := c.AddNode(api.Node{ID: id, Capacity: vector(int64(10+next(15)), int64(10+next(15)))}); err != nil {
			t.Fatal(err)
		}
	}
	for i := range 20 {
		// Different IDs, in another order than those of the Arrivals.
		p := asks(i*7%20, next(4), int64(next(6)), int64(next(6)))
		place(t, c, p, 0)
		node := next(4)
		switch next(8) {
		case 0:
		case 1, 2:
			if _, err := c.Claim(p.ID, node); err != nil {
				t.Fatal(err)
			}
		default:
			// Some do not fit, and stay pending.
			if _, err := c.Bind(p.ID, node); err == nil && next(3) == 0 {
				if _, err := c.Change(p.ID, phase.Evict, 50); err != nil {
					t.Fatal(err)
				}
			}
		}
	}
	return c
}

// sum returns the load by its definition, as one loop over all pods.
func sum(c *cluster.Cluster, p api.Pod, node int, without []int) []int64 {
	load := vector(0, 0)
	for _, q := range c.Pods() {
		held := (q.Phase == api.Bound || q.Phase == api.Terminating) && !slices.Contains(without, q.ID)
		reserved := q.Phase == api.Nominated && q.ID != p.ID && q.Priority >= p.Priority
		if q.Node == node && (held || reserved) {
			load[0] += q.Request[0]
			load[1] += q.Request[1]
		}
	}
	return load
}

// few returns some IDs of pods, of which some may be missing or given twice.
func few(next func(int) int) []int {
	var l []int
	for range next(8) {
		l = append(l, next(24))
	}
	return l
}

// P16.1 to P16.3: in crowded clusters all functions say what the definitions say.
func TestDefinitions(t *testing.T) {
	next := numbers()
	fit, not := 0, 0
	for range 60 {
		c := crowd(t, next)
		for id := range 22 {
			p := asks(id, next(5), int64(next(9)), int64(next(9)))
			for node := range 4 {
				n, _ := c.Node(node)
				without := few(next)
				some := sum(c, p, node, without)
				same(t, "load", Of(c, p, node, without...), some...)
				want := some[0]+p.Request[0] <= n.Capacity[0] && some[1]+p.Request[1] <= n.Capacity[1]
				fits(t, c, p, node, want, without...)
				if want {
					fit++
				} else {
					not++
				}
				all := sum(c, p, node, nil)
				same(t, "load", Of(c, p, node), all...)
				same(t, "short", Short(c, p, node), max(0, all[0]+p.Request[0]-n.Capacity[0]), max(0, all[1]+p.Request[1]-n.Capacity[1]))
				if all[0] <= n.Capacity[0] && all[1] <= n.Capacity[1] {
					left(t, c, p, node, true, n.Capacity[0]-all[0], n.Capacity[1]-all[1])
				} else {
					left(t, c, p, node, false)
				}
			}
		}
	}
	if fit < 1000 || not < 1000 {
		t.Error("too few cases:", fit, not)
	}
}

// P16.4: a pod fits without more pods if it fits without fewer, and it fits exactly if it is short of nothing.
func TestConsequences(t *testing.T) {
	next := numbers()
	for range 60 {
		c := crowd(t, next)
		for id := range 22 {
			p := asks(id, next(5), int64(next(9)), int64(next(9)))
			for node := range 4 {
				fewer := few(next)
				more := append(few(next), fewer...)
				if Fits(c, p, node, fewer...) && !Fits(c, p, node, more...) {
					t.Error(p, "fits on", node, "without", fewer, "but not without", more)
				}
				if !vec.Fits(Of(c, p, node, more...), Of(c, p, node, fewer...)) {
					t.Error("the load of", node, "without", more, "is not less than without", fewer)
				}
				nothing := vec.Same(Short(c, p, node), vec.Zero(2))
				fits(t, c, p, node, nothing)
			}
		}
	}
}
