package filter

import (
	"math"
	"slices"
	"testing"

	"hammock/api"
	"hammock/cluster"
	"hammock/load"
	"hammock/phase"
)

// vector returns its arguments.
func vector(v ...int64) []int64 { return v }

// has returns a node with an ID and a capacity.
func has(id int, capacity ...int64) api.Node { return api.Node{ID: id, Capacity: capacity} }

// asks returns a pod with an ID, a priority and a request, as it is before Submit.
func asks(id, priority int, request ...int64) api.Pod {
	return api.Pod{ID: id, Priority: priority, Request: request}
}

// made returns a cluster of a dimension with nodes. It must be right.
func made(t *testing.T, dims int, nodes ...api.Node) *cluster.Cluster {
	t.Helper()
	c := cluster.New(dims)
	for _, n := range nodes {
		if err := c.AddNode(n); err != nil {
			t.Fatal(n, err)
		}
	}
	return c
}

// place submits a pod and applies events with a node to it, which must apply.
func place(t *testing.T, c *cluster.Cluster, p api.Pod, node int, events ...int) {
	t.Helper()
	if _, err := c.Submit(p); err != nil {
		t.Fatal(p, err)
	}
	for _, event := range events {
		var err error
		switch event {
		case phase.Bind:
			_, err = c.Bind(p.ID, node)
		case phase.Claim:
			_, err = c.Claim(p.ID, node)
		default:
			_, err = c.Change(p.ID, event, 50)
		}
		if err != nil {
			t.Fatal(p, event, err)
		}
	}
}

// fits checks the nodes on which a pod fits, and the first one.
func fits(t *testing.T, c *cluster.Cluster, p api.Pod, want ...int) {
	t.Helper()
	if got := Nodes(c, p); !slices.Equal(got, want) {
		t.Error(p, "fits on", got, "want", want)
	}
	first := 0
	if len(want) > 0 {
		first = want[0]
	}
	if id, ok := First(c, p); id != first || ok != (len(want) > 0) {
		t.Error("the first node for", p, "is", id, ok, "want", first)
	}
}

// reasons checks the reasons of all nodes, of which the others must have none.
func reasons(t *testing.T, c *cluster.Cluster, p api.Pod, want ...[2]int) {
	t.Helper()
	if got := Reasons(c, p); !slices.Equal(got, want) {
		t.Error("the reasons for", p, "are", got, "want", want)
	}
	for _, n := range c.Nodes() {
		i := slices.IndexFunc(want, func(x [2]int) bool { return x[0] == n.ID })
		if i >= 0 {
			reason(t, c, p, n.ID, true, want[i][1])
		} else {
			reason(t, c, p, n.ID, false, 0)
		}
	}
}

// reason checks what Reason returns: an index and true, or 0 and false.
func reason(t *testing.T, c *cluster.Cluster, p api.Pod, node int, ok bool, want int) {
	t.Helper()
	if got, is := Reason(c, p, node); got != want || is != ok {
		t.Error("the reason for", p, "on", node, "is", got, is, "want", want, ok)
	}
}

// ever checks what Ever returns.
func ever(t *testing.T, c *cluster.Cluster, p api.Pod, want bool) {
	t.Helper()
	if got := Ever(c, p); got != want {
		t.Error(p, "fits ever", got, "want", want)
	}
}

// The example of the chapter.
func TestExample(t *testing.T) {
	c := made(t, 1, has(3, 4), has(7, 5))
	p := asks(1, 0, 5)
	fits(t, c, p, 7)
	reasons(t, c, p, [2]int{3, 0})
	ever(t, c, p, true)
}

// P17.1: the IDs are in ascending order, in whatever order the nodes are added.
func TestNodesOrder(t *testing.T) {
	extremes := []int{math.MinInt, -1 << 32, -7, api.None, 0, 1, 2, 9, 10, 257, 1 << 32, math.MaxInt}
	for shift := range len(extremes) {
		var nodes []api.Node
		for i := range extremes {
			// 5 has no factor in common with the number of nodes, so that each of them is added.
			nodes = append(nodes, has(extremes[(i*5+shift)%len(extremes)], 5))
		}
		c := made(t, 1, nodes...)
		fits(t, c, asks(1, 0, 5), extremes...)
		fits(t, c, asks(1, 0, 6))
	}
}

// P17.1: a pod fits where its request and the load are not greater than the capacity in any element.
func TestNodesFit(t *testing.T) {
	c := made(t, 2, has(1, 5, 5), has(2, 6, 4), has(3, 4, 6), has(4, 5, 4), has(5, 0, 0), has(6, 9, 9))
	for _, x := range []struct {
		a, b int64
		want []int
	}{
		{0, 0, []int{1, 2, 3, 4, 5, 6}},
		{1, 0, []int{1, 2, 3, 4, 6}},
		{5, 0, []int{1, 2, 4, 6}},
		{5, 5, []int{1, 6}},
		{5, 4, []int{1, 2, 4, 6}},
		{4, 6, []int{3, 6}},
		{6, 5, []int{6}},
		{9, 9, []int{6}},
		{9, 10, nil},
		{10, 0, nil},
		{api.MaxAmount, api.MaxAmount, nil},
	} {
		fits(t, c, asks(1, 0, x.a, x.b), x.want...)
	}
}

// P17.1: what is bound, terminating or reserved on a node counts, and nothing is left out.
func TestNodesLoad(t *testing.T) {
	c := made(t, 1, has(1, 9), has(2, 9), has(3, 9), has(4, 9), has(5, 9))
	place(t, c, asks(1, 3, 5), 1, phase.Bind)
	place(t, c, asks(2, 4, 4), 2, phase.Bind, phase.Evict)
	place(t, c, asks(3, 5, 6), 3, phase.Claim)
	place(t, c, asks(4, 5, 9), 4, phase.Bind, phase.Free)
	place(t, c, asks(5, 9, 9), 5)
	for _, x := range []struct {
		id, priority int
		request      int64
		want         []int
	}{
		{9, 5, 3, []int{1, 2, 3, 4, 5}},
		{9, 5, 4, []int{1, 2, 4, 5}},
		{9, 5, 5, []int{2, 4, 5}},
		{9, 5, 6, []int{4, 5}},
		// A greater priority does not see the reservation, but what is bound.
		{9, 6, 6, []int{3, 4, 5}},
		{9, 6, 4, []int{1, 2, 3, 4, 5}},
		{9, math.MaxInt, 9, []int{3, 4, 5}},
		{9, math.MinInt, 4, []int{1, 2, 4, 5}},
		// The reservation of the pod itself does not count, and what it holds does.
		{3, 5, 9, []int{3, 4, 5}},
		{3, 4, 4, []int{1, 2, 3, 4, 5}},
		{1, 3, 5, []int{2, 4, 5}},
		{2, 4, 6, []int{4, 5}},
	} {
		fits(t, c, asks(x.id, x.priority, x.request), x.want...)
	}
}

// P17.1: a node that is dropped is no longer among them, nor is one that fills up, and one that is freed is.
func TestNodesChange(t *testing.T) {
	c := made(t, 1, has(2, 5), has(1, 5), has(3, 5))
	p := asks(9, 0, 3)
	fits(t, c, p, 1, 2, 3)
	if _, err := c.DropNode(1); err != nil {
		t.Fatal(err)
	}
	fits(t, c, p, 2, 3)
	place(t, c, asks(1, 0, 3), 2, phase.Bind)
	fits(t, c, p, 3)
	reasons(t, c, p, [2]int{2, 0})
	if _, err := c.Change(1, phase.Free, 0); err != nil {
		t.Fatal(err)
	}
	fits(t, c, p, 2, 3)
	if err := c.AddNode(has(1, 3)); err != nil {
		t.Fatal(err)
	}
	fits(t, c, p, 1, 2, 3)
	reasons(t, c, p)
}

// P17.1: the phase and the other fields of the pod do not matter.
func TestPodFields(t *testing.T) {
	c := made(t, 1, has(3, 4), has(7, 5))
	for _, phase := range []int{0, api.Pending, api.Nominated, api.Bound, api.Terminating, api.Gone, -1, math.MaxInt} {
		for _, node := range []int{0, 3, 7, api.None} {
			for _, preempts := range []bool{false, true} {
				p := api.Pod{ID: 2, Priority: 5, Phase: phase, Node: node, Deadline: 9, Grace: 3, Arrival: 8, Preempts: preempts, Request: vector(5)}
				fits(t, c, p, 7)
				reasons(t, c, p, [2]int{3, 0})
				ever(t, c, p, true)
			}
		}
	}
}

// P17.2: the reason is the first element that is exceeded, not the one that is exceeded most or last.
func TestReasonElement(t *testing.T) {
	c := made(t, 3, has(1, 5, 5, 5))
	place(t, c, asks(1, 5, 1, 2, 3), 1, phase.Bind)
	for _, x := range []struct {
		request []int64
		ok      bool
		want    int
	}{
		{vector(4, 3, 2), false, 0},
		{vector(0, 0, 0), false, 0},
		{vector(5, 3, 2), true, 0},
		{vector(4, 4, 2), true, 1},
		{vector(4, 3, 3), true, 2},
		{vector(5, 4, 2), true, 0},
		{vector(5, 9, 9), true, 0},
		{vector(4, 4, 9), true, 1},
		{vector(4, 9, 3), true, 1},
		{vector(5, 0, 9), true, 0},
		{vector(0, 0, api.MaxAmount), true, 2},
		{vector(0, api.MaxAmount, api.MaxAmount), true, 1},
		{vector(api.MaxAmount, 0, 0), true, 0},
	} {
		p := asks(9, 5, x.request...)
		reason(t, c, p, 1, x.ok, x.want)
		if x.ok {
			reasons(t, c, p, [2]int{1, x.want})
			fits(t, c, p)
		} else {
			reasons(t, c, p)
			fits(t, c, p, 1)
		}
	}
}

// P17.2: each element may be the reason, up to the greatest dimension.
func TestReasonDimensions(t *testing.T) {
	for dims := 1; dims <= api.MaxDims; dims++ {
		capacity := slices.Repeat(vector(5), dims)
		c := made(t, dims, has(7, capacity...))
		for i := range dims {
			request := slices.Clone(capacity)
			request[i]++
			reasons(t, c, asks(1, 0, request...), [2]int{7, i})
			request[dims-1] = 9
			reasons(t, c, asks(1, 0, request...), [2]int{7, i})
		}
		reasons(t, c, asks(1, 0, capacity...))
	}
}

// P17.2: the nodes that have a reason are in ascending order, each with its own, and those on which the pod fits are missing.
func TestReasonsOrder(t *testing.T) {
	c := made(t, 3,
		has(math.MaxInt, 1, 9, 9), has(5, 9, 9, 1), has(math.MinInt, 9, 1, 9), has(0, 9, 9, 9), has(-3, 1, 1, 1), has(10, 9, 1, 1), has(9, 5, 5, 5))
	reasons(t, c, asks(1, 0, 5, 5, 5), [2]int{math.MinInt, 1}, [2]int{-3, 0}, [2]int{5, 2}, [2]int{10, 1}, [2]int{math.MaxInt, 0})
	fits(t, c, asks(1, 0, 5, 5, 5), 0, 9)
}

// P17.2: what is reserved is a reason for the pods that see it.
func TestReasonLoad(t *testing.T) {
	c := made(t, 2, has(1, 5, 5), has(2, 5, 5))
	place(t, c, asks(1, 5, 0, 3), 1, phase.Claim)
	place(t, c, asks(2, 3, 3, 0), 1, phase.Bind, phase.Evict)
	place(t, c, asks(3, 7, 1, 1), 2, phase.Bind)
	reasons(t, c, asks(9, 5, 2, 3), [2]int{1, 1})
	reasons(t, c, asks(9, 5, 3, 3), [2]int{1, 0})
	reasons(t, c, asks(9, 6, 2, 3))
	reasons(t, c, asks(9, 6, 5, 5), [2]int{1, 0}, [2]int{2, 0})
	reasons(t, c, asks(9, 6, 0, 5), [2]int{2, 1})
	reasons(t, c, asks(1, 5, 2, 5), [2]int{2, 1})
	// An element of 0 is a reason as well, if more is reserved than the node has.
	place(t, c, asks(4, 9, 0, 9), 2, phase.Claim)
	reasons(t, c, asks(9, 5, 0, 0), [2]int{2, 1})
	fits(t, c, asks(9, 5, 0, 0), 1)
	ever(t, c, asks(9, 5, 0, 0), true)
}

// P17.2: there is no reason without the node.
func TestNoNode(t *testing.T) {
	c := made(t, 1, has(7, 5), has(5, 5))
	if _, err := c.DropNode(5); err != nil {
		t.Fatal(err)
	}
	for _, request := range []int64{0, 5, 6, api.MaxAmount} {
		for _, node := range []int{5, 6, 0, -7, api.None, 7 + 1<<32, math.MinInt, math.MaxInt} {
			reason(t, c, asks(1, 0, request), node, false, 0)
		}
	}
	reasons(t, c, asks(1, 0, 6), [2]int{7, 0})
}

// P17.1 to P17.3: an empty cluster has no nodes, for any pod.
func TestEmpty(t *testing.T) {
	for dims := range api.MaxDims + 1 {
		for _, x := range []int64{0, 1, -1, api.MaxAmount, math.MaxInt64} {
			p := asks(1, 0, slices.Repeat(vector(x), dims)...)
			fits(t, cluster.New(dims), p)
			reasons(t, cluster.New(dims), p)
			reason(t, cluster.New(dims), p, 0, false, 0)
			ever(t, cluster.New(dims), p, false)
		}
	}
}

// P17.1, P17.2: a pod whose request is not valid fits nowhere, and there is no reason.
func TestWrongRequest(t *testing.T) {
	c := made(t, 2, has(1, 5, 5), has(2, 0, 0), has(3, api.MaxAmount, api.MaxAmount))
	for _, request := range [][]int64{
		nil,
		{},
		{0},
		{9},
		{0, 0, 0},
		{9, 9, 9},
		{-1, 0},
		{0, -1},
		{-1, 9},
		{9, -1},
		{math.MinInt64, math.MinInt64},
		{math.MinInt64, math.MaxInt64},
		{api.MaxAmount + 1, 0},
		{0, api.MaxAmount + 1},
		{math.MaxInt64, math.MaxInt64},
	} {
		p := asks(9, 0, request...)
		fits(t, c, p)
		reasons(t, c, p)
		for node := range 5 {
			reason(t, c, p, node, false, 0)
		}
	}
	fits(t, c, asks(9, 0, 0, 0), 1, 2, 3)
	fits(t, c, asks(9, 0, api.MaxAmount, api.MaxAmount), 3)
}

// P17.3: one node must have enough in every element.
func TestEver(t *testing.T) {
	c := made(t, 2, has(1, 5, 5), has(2, 7, 1), has(3, 0, 9))
	for _, x := range []struct {
		a, b int64
		want bool
	}{
		{0, 0, true},
		{5, 5, true},
		{5, 6, false},
		{6, 5, false},
		{6, 2, false},
		{7, 1, true},
		{7, 0, true},
		{8, 0, false},
		{0, 9, true},
		{1, 9, false},
		{0, 10, false},
		{7, 9, false},
		{api.MaxAmount, api.MaxAmount, false},
		{math.MaxInt64, 0, false},
	} {
		ever(t, c, asks(1, 0, x.a, x.b), x.want)
	}
}

// P17.3: only capacities count, not what is on the nodes.
func TestEverLoad(t *testing.T) {
	c := made(t, 1, has(1, 5), has(2, 9))
	place(t, c, asks(1, 5, 5), 1, phase.Bind)
	place(t, c, asks(2, 5, 9), 2, phase.Bind, phase.Evict)
	place(t, c, asks(3, 5, 9), 2, phase.Claim)
	for request := range int64(12) {
		p := asks(9, 5, request)
		ever(t, c, p, request <= 9)
		if request > 0 {
			fits(t, c, p)
		}
	}
	if _, err := c.DropNode(2); err != nil {
		t.Fatal(err)
	}
	ever(t, c, asks(9, 5, 5), true)
	ever(t, c, asks(9, 5, 6), false)
	if _, err := c.DropNode(1); err != nil {
		t.Fatal(err)
	}
	ever(t, c, asks(9, 5, 0), false)
}

// P17.3: a request of another dimension has elements that no capacity has, or none for some of it. Its elements need not be valid otherwise.
func TestEverWrongRequest(t *testing.T) {
	c := made(t, 2, has(1, 5, 5), has(3, 5, 5))
	for _, request := range [][]int64{nil, {}, {0}, {-1}, {0, 0, 0}, {-1, -1, -1}, {-1, 6}, {6, math.MinInt64}} {
		ever(t, c, asks(1, 0, request...), false)
	}
	for _, request := range [][]int64{{-1, 5}, {5, -1}, {math.MinInt64, math.MinInt64}} {
		ever(t, c, asks(1, 0, request...), true)
	}
}

// P17.1 to P17.3: in the dimension 0 every pod fits on every node.
func TestNoDimension(t *testing.T) {
	c := made(t, 0, has(7), has(3))
	place(t, c, asks(1, 5), 7, phase.Bind)
	place(t, c, asks(2, 5), 3, phase.Claim)
	p := asks(9, 5)
	fits(t, c, p, 3, 7)
	reasons(t, c, p)
	ever(t, c, p, true)
	wrong := asks(9, 5, 0)
	fits(t, c, wrong)
	reasons(t, c, wrong)
	ever(t, c, wrong, false)
}

// P17.1 to P17.3: a nil cluster has no nodes.
func TestNil(t *testing.T) {
	for _, p := range []api.Pod{{}, asks(1, 5), asks(1, 5, 3), asks(1, 5, -1)} {
		fits(t, nil, p)
		reasons(t, nil, p)
		ever(t, nil, p, false)
		for _, node := range []int{0, 7, api.None, math.MinInt, math.MaxInt} {
			reason(t, nil, p, node, false, 0)
		}
	}
}

// Rule 5: arguments are not changed, and results share no memory with each other or with what later calls return.
func TestResultsAreCopies(t *testing.T) {
	c := made(t, 2, has(1, 5, 5), has(2, 5, 5), has(3, 9, 4), has(4, 4, 9))
	request := []int64{5, 5, 77}
	p := asks(9, 5, request[:2]...)
	for range 2 {
		nodes, again := Nodes(c, p), Nodes(c, p)
		why, more := Reasons(c, p), Reasons(c, p)
		clear(nodes)
		clear(why)
		if !slices.Equal(again, []int{1, 2}) || !slices.Equal(more, [][2]int{{3, 1}, {4, 0}}) {
			t.Error("the results share memory:", again, more)
		}
		fits(t, c, p, 1, 2)
		reasons(t, c, p, [2]int{3, 1}, [2]int{4, 0})
		ever(t, c, p, true)
	}
	if !slices.Equal(request, []int64{5, 5, 77}) {
		t.Error("the request is", request)
	}
	if n, ok := c.Node(1); !ok || !slices.Equal(n.Capacity, []int64{5, 5}) {
		t.Error("the node is", n, ok)
	}
}

// P17.1 to P17.3: as many nodes as there may be.
func TestManyNodes(t *testing.T) {
	c := cluster.New(1)
	var odd []int
	var even [][2]int
	for i := range api.MaxNodes {
		// The IDs are added in a descending order.
		id := api.MaxNodes - 1 - i
		if err := c.AddNode(has(id, int64(id%2))); err != nil {
			t.Fatal(err)
		}
		if i%2 == 1 {
			odd = append(odd, i)
		} else {
			even = append(even, [2]int{i, 0})
		}
	}
	p := asks(1, 0, 1)
	fits(t, c, p, odd...)
	reasons(t, c, p, even...)
	ever(t, c, p, true)
	ever(t, c, asks(1, 0, 2), false)
}

// numbers returns a function whose results are the same in every run.
func numbers() func(below int) int {
	x := uint64(1)
	return func(below int) int {
		x = x*6364136223846793005 + 1442695040888963407
		return int(x>>33) % below
	}
}

// crowd returns a cluster with nodes 0 to 5, on which there are pods 0 to 19 in many phases.
func crowd(t *testing.T, next func(int) int) *cluster.Cluster {
	t.Helper()
	c := cluster.New(2)
	for i := range 6 {
		// Another order than that of the IDs.
		if err := c.AddNode(has(i*5%6, int64(2+next(15)), int64(2+next(15)))); err != nil {
			t.Fatal(err)
		}
	}
	for id := range 20 {
		place(t, c, asks(id, next(4), int64(next(6)), int64(next(6))), 0)
		node := next(6)
		if next(4) == 0 {
			if _, err := c.Claim(id, node); err != nil {
				t.Fatal(err)
			}
			continue
		}
		// Some do not fit, and stay pending.
		if _, err := c.Bind(id, node); err == nil && next(3) == 0 {
			if _, err := c.Change(id, phase.Evict, 50); err != nil {
				t.Fatal(err)
			}
		}
	}
	return c
}

// P17.1 to P17.4: in crowded clusters all functions say what the definitions say, so that each node has a reason or is among those on which the pod fits, and none is if the pod does not fit ever.
func TestDefinitions(t *testing.T) {
	next := numbers()
	fit, not, never := 0, 0, 0
	for range 60 {
		c := crowd(t, next)
		for id := range 22 {
			p := asks(id, next(5), int64(next(14)), int64(next(14)))
			var nodes []int
			var why [][2]int
			possible := false
			for node := range 6 {
				n, _ := c.Node(node)
				possible = possible || p.Request[0] <= n.Capacity[0] && p.Request[1] <= n.Capacity[1]
				sum := load.Of(c, p, node)
				switch {
				case sum[0]+p.Request[0] > n.Capacity[0]:
					why = append(why, [2]int{node, 0})
				case sum[1]+p.Request[1] > n.Capacity[1]:
					why = append(why, [2]int{node, 1})
				default:
					nodes = append(nodes, node)
				}
			}
			fits(t, c, p, nodes...)
			reasons(t, c, p, why...)
			ever(t, c, p, possible)
			fit, not = fit+len(nodes), not+len(why)
			if !possible {
				never++
			}
		}
	}
	if fit < 1000 || not < 1000 || never < 100 {
		t.Error("too few cases:", fit, not, never)
	}
}

// P17.4: each node has a reason or is among those on which the pod fits, and the pod fits nowhere if it does not fit ever.
func TestConsequences(t *testing.T) {
	next := numbers()
	for range 60 {
		c := crowd(t, next)
		for id := range 22 {
			p := asks(id, next(5), int64(next(14)), int64(next(14)))
			all := Nodes(c, p)
			for _, x := range Reasons(c, p) {
				all = append(all, x[0])
			}
			slices.Sort(all)
			if !slices.Equal(all, []int{0, 1, 2, 3, 4, 5}) {
				t.Error("the nodes for", p, "and those with a reason are", all)
			}
			if !Ever(c, p) && len(Nodes(c, p)) > 0 {
				t.Error(p, "fits although it does not fit ever")
			}
		}
	}
}
