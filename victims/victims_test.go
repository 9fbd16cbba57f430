package victims

import (
	"math"
	"reflect"
	"slices"
	"testing"

	"hammock/api"
	"hammock/cluster"
	"hammock/load"
	"hammock/phase"
	"hammock/rank"
)

// vector returns its arguments.
func vector(v ...int64) []int64 { return v }

// has returns a node with an ID and a capacity.
func has(id int, capacity ...int64) api.Node { return api.Node{ID: id, Capacity: capacity} }

// asks returns a pod with an ID, a priority and a request, as it is before Submit.
func asks(id, priority int, request ...int64) api.Pod {
	return api.Pod{ID: id, Priority: priority, Request: request}
}

// made returns a cluster of a dimension with nodes. It must be right.
func made(t *testing.T, dims int, nodes ...api.Node) *cluster.Cluster {
	t.Helper()
	c := cluster.New(dims)
	for _, n := range nodes {
		if err := c.AddNode(n); err != nil {
			t.Fatal(n, err)
		}
	}
	return c
}

// place submits a pod and applies events with a node to it, which must apply.
func place(t *testing.T, c *cluster.Cluster, p api.Pod, node int, events ...int) {
	t.Helper()
	if _, err := c.Submit(p); err != nil {
		t.Fatal(p, err)
	}
	for _, event := range events {
		var err error
		switch event {
		case phase.Bind:
			_, err = c.Bind(p.ID, node)
		case phase.Claim:
			_, err = c.Claim(p.ID, node)
		default:
			_, err = c.Change(p.ID, event, 50)
		}
		if err != nil {
			t.Fatal(p, event, err)
		}
	}
}

// bound binds a pod for each request to the node 7, with the IDs and arrivals 0, 1 and so on, and a priority.
func bound(t *testing.T, c *cluster.Cluster, priority int, requests ...int64) {
	t.Helper()
	for id, x := range requests {
		place(t, c, asks(id, priority, x), 7, phase.Bind)
	}
}

// known checks that pods are those of the cluster with some IDs, in this order.
func known(t *testing.T, c *cluster.Cluster, what string, l []api.Pod, want ...int) {
	t.Helper()
	for _, q := range l {
		if p, ok := c.Pod(q.ID); !ok || !reflect.DeepEqual(q, p) {
			t.Error(what, "has", q, "want", p)
		}
	}
	if got := IDs(l); !slices.Equal(got, want) {
		t.Error(what, "is", got, "want", want)
	}
}

// lower checks the IDs of the lower pods.
func lower(t *testing.T, c *cluster.Cluster, p api.Pod, node int, want ...int) {
	t.Helper()
	known(t, c, "lower", Lower(c, p, node), want...)
}

// victims checks the IDs of the victims on a possible node, for which Minimal holds.
func victims(t *testing.T, c *cluster.Cluster, p api.Pod, node int, want ...int) {
	t.Helper()
	l, ok := Of(c, p, node)
	if !ok || !Possible(c, p, node) {
		t.Error("the node", node, "is not possible for", p)
	}
	known(t, c, "victims", l, want...)
	minimal(t, c, p, node, true, want...)
	if fits := load.Fits(c, p, node); fits != (len(want) == 0) {
		t.Error(p, "fits", fits, "with the victims", want)
	}
}

// impossible checks a node that is not possible.
func impossible(t *testing.T, c *cluster.Cluster, p api.Pod, node int) {
	t.Helper()
	if Possible(c, p, node) {
		t.Error("the node", node, "is possible for", p)
	}
	if l, ok := Of(c, p, node); ok || len(l) > 0 {
		t.Error("the victims on", node, "for", p, "are", l, ok)
	}
}

// minimal checks what Minimal reports on pods of which only the IDs are given.
func minimal(t *testing.T, c *cluster.Cluster, p api.Pod, node int, want bool, ids ...int) {
	t.Helper()
	var l []api.Pod
	for _, id := range ids {
		l = append(l, api.Pod{ID: id})
	}
	if got := Minimal(c, p, node, l); got != want {
		t.Error("minimal for", p, "on", node, "without", ids, "is", got)
	}
}

// The example of the chapter, and those of the document.
func TestExample(t *testing.T) {
	c := made(t, 1, has(7, 10))
	bound(t, c, 3, 3, 4, 3)
	p := asks(9, 5, 4)
	lower(t, c, p, 7, 0, 1, 2)
	victims(t, c, p, 7, 1)

	c = made(t, 1, has(7, 5))
	bound(t, c, 3, 3)
	victims(t, c, asks(9, 5, 3), 7, 0)
	impossible(t, c, asks(9, 3, 3), 7)
}

// P18.1: the order is by the priority, the greatest one first, and then by the arrival; it is not that of the IDs.
func TestLowerOrder(t *testing.T) {
	c := made(t, 1, has(7, 9))
	for _, x := range [][2]int{{5, 2}, {9, 4}, {3, 2}, {8, 4}, {1, -3}, {2, 0}, {4, 2}, {7, 3}} {
		place(t, c, asks(x[0], x[1], 1), 7, phase.Bind)
	}
	for _, x := range []struct {
		priority int
		want     []int
	}{
		{math.MaxInt, []int{9, 8, 7, 5, 3, 4, 2, 1}},
		{5, []int{9, 8, 7, 5, 3, 4, 2, 1}},
		{4, []int{7, 5, 3, 4, 2, 1}},
		{3, []int{5, 3, 4, 2, 1}},
		{2, []int{2, 1}},
		{1, []int{2, 1}},
		{0, []int{1}},
		{-2, []int{1}},
		{-3, nil},
		{math.MinInt, nil},
	} {
		lower(t, c, asks(90, x.priority, 1), 7, x.want...)
	}
}

// P18.1: the least and the greatest priorities are compared without an overflow.
func TestLowerExtremes(t *testing.T) {
	c := made(t, 1, has(7, 9))
	for id, priority := range []int{0, math.MinInt, math.MaxInt, math.MaxInt - 1, math.MinInt + 1, -api.MaxPriority, api.MaxPriority} {
		place(t, c, asks(id, priority, 1), 7, phase.Bind)
	}
	lower(t, c, asks(90, math.MaxInt, 1), 7, 3, 6, 0, 5, 4, 1)
	lower(t, c, asks(90, math.MaxInt-1, 1), 7, 6, 0, 5, 4, 1)
	lower(t, c, asks(90, 0, 1), 7, 5, 4, 1)
	lower(t, c, asks(90, math.MinInt+1, 1), 7, 1)
	lower(t, c, asks(90, math.MinInt, 1), 7)
}

// P18.1: only pods that are bound on the node count, not what is pending, nominated, terminating or gone, or on another node.
func TestLowerPhases(t *testing.T) {
	c := made(t, 1, has(7, 99), has(8, 99))
	place(t, c, asks(1, 1, 5), 7)
	place(t, c, asks(2, 1, 5), 7, phase.Claim)
	place(t, c, asks(3, 1, 5), 7, phase.Bind)
	place(t, c, asks(4, 1, 5), 7, phase.Bind, phase.Evict)
	place(t, c, asks(5, 1, 5), 7, phase.Bind, phase.Free)
	place(t, c, asks(6, 1, 5), 8, phase.Bind)
	place(t, c, asks(7, 1, 5), 7, phase.Claim, phase.Clear)
	place(t, c, asks(8, 1, 5), 7, phase.Claim, phase.Bind)
	place(t, c, asks(9, 1, 5), 7, phase.Free)
	p := asks(90, 5, 5)
	lower(t, c, p, 7, 3, 8)
	lower(t, c, p, 8, 6)
	if _, err := c.Change(3, phase.Evict, 50); err != nil {
		t.Fatal(err)
	}
	lower(t, c, p, 7, 8)
	if _, err := c.DropNode(7); err != nil {
		t.Fatal(err)
	}
	lower(t, c, p, 7)
	impossible(t, c, p, 7)
	lower(t, c, p, 8, 6)
}

// P18.1: the lower pods do not depend on the request, whether or not the node is possible.
func TestLowerRequest(t *testing.T) {
	c := made(t, 1, has(7, 9))
	bound(t, c, 3, 3, 4)
	for _, request := range [][]int64{nil, {}, {0}, {9}, {10}, {-1}, {1, 1}, {math.MaxInt64}, {math.MinInt64}} {
		lower(t, c, asks(9, 4, request...), 7, 0, 1)
	}
}

// P18.1 to P18.3: nothing is on a node that is missing, which is not possible.
func TestNoNode(t *testing.T) {
	c := made(t, 1, has(7, 9), has(5, 9))
	bound(t, c, 3, 3, 4)
	if _, err := c.DropNode(5); err != nil {
		t.Fatal(err)
	}
	for _, node := range []int{5, 6, 0, -7, api.None, 7 + 1<<32, math.MinInt, math.MaxInt} {
		for _, request := range []int64{0, 5, 9} {
			p := asks(9, 5, request)
			lower(t, c, p, node)
			impossible(t, c, p, node)
			minimal(t, c, p, node, false)
			minimal(t, c, p, node, false, 0)
			minimal(t, c, p, node, false, 0, 1)
		}
	}
}

// P18.1, P18.2: a node is possible up to what is left by the pods that are not lower, and no further.
func TestPossible(t *testing.T) {
	c := made(t, 1, has(7, 20))
	place(t, c, asks(1, 5, 1), 7, phase.Bind)
	place(t, c, asks(2, 4, 2), 7, phase.Bind)
	place(t, c, asks(3, 3, 4), 7, phase.Bind)
	place(t, c, asks(4, 3, 8), 7, phase.Bind)
	for priority, most := range map[int]int64{math.MinInt: 5, 3: 5, 4: 17, 5: 19, 6: 20, math.MaxInt: 20} {
		for request := range int64(22) {
			p := asks(9, priority, request)
			if got := Possible(c, p, 7); got != (request <= most) {
				t.Error("the node is possible for", p, got)
			}
			if request > most {
				impossible(t, c, p, 7)
			}
		}
	}
}

// P18.2: the lower pods are reprieved in order, the greatest priority first, not those that need least or came last.
func TestOfOrder(t *testing.T) {
	c := made(t, 1, has(7, 10))
	place(t, c, asks(1, 1, 2), 7, phase.Bind)
	place(t, c, asks(2, 2, 3), 7, phase.Bind)
	place(t, c, asks(3, 3, 4), 7, phase.Bind)
	place(t, c, asks(4, 2, 1), 7, phase.Bind)
	for request, want := range [][]int{
		nil,
		{1},
		{1},
		{4, 1},
		// The pod 4 stays, although the pod 2 before it does not.
		{2, 1},
		{2, 1},
		{2, 4, 1},
		// The pod 3 does not stay, so that there is room for those after it.
		{3, 4, 1},
		{3, 2, 1},
		{3, 2, 1},
		{3, 2, 4, 1},
	} {
		victims(t, c, asks(9, 5, int64(request)), 7, want...)
	}
	impossible(t, c, asks(9, 5, 11), 7)
}

// P18.2: pods with the same priority are reprieved in the order of their arrivals, not of their IDs.
func TestOfArrivals(t *testing.T) {
	c := made(t, 1, has(7, 9))
	for _, id := range []int{5, 1, 3, 2, 4} {
		place(t, c, asks(id, 2, 1), 7, phase.Bind)
	}
	for request, want := range map[int64][]int{4: nil, 5: {4}, 6: {2, 4}, 7: {3, 2, 4}, 8: {1, 3, 2, 4}, 9: {5, 1, 3, 2, 4}} {
		victims(t, c, asks(9, 5, request), 7, want...)
	}
}

// P18.2: a pod is reprieved only if there is room in each element.
func TestOfElements(t *testing.T) {
	c := made(t, 3, has(7, 9, 9, 9))
	place(t, c, asks(1, 3, 4, 1, 0), 7, phase.Bind)
	place(t, c, asks(2, 3, 1, 4, 1), 7, phase.Bind)
	place(t, c, asks(3, 3, 0, 1, 4), 7, phase.Bind)
	place(t, c, asks(4, 3, 4, 3, 4), 7, phase.Bind)
	for _, x := range []struct {
		request []int64
		want    []int
	}{
		{vector(0, 0, 0), nil},
		{vector(1, 0, 0), []int{4}},
		{vector(4, 3, 4), []int{4}},
		{vector(5, 0, 0), []int{2, 4}},
		{vector(0, 4, 0), []int{3, 4}},
		{vector(0, 0, 5), []int{3, 4}},
		{vector(6, 6, 6), []int{1, 2, 3, 4}},
		{vector(6, 5, 5), []int{1, 3, 4}},
		{vector(5, 8, 8), []int{2, 3, 4}},
		{vector(9, 8, 5), []int{1, 2, 4}},
		{vector(9, 9, 9), []int{1, 2, 3, 4}},
	} {
		victims(t, c, asks(9, 5, x.request...), 7, x.want...)
	}
	impossible(t, c, asks(9, 5, 10, 0, 0), 7)
	impossible(t, c, asks(9, 5, 0, 0, 10), 7)
}

// P18.2: a lower pod whose request is zero stays in any case, since nothing is freed without it.
func TestOfZeros(t *testing.T) {
	c := made(t, 2, has(7, 5, 5))
	place(t, c, asks(1, 3, 0, 0), 7, phase.Bind)
	place(t, c, asks(2, 3, 5, 0), 7, phase.Bind)
	place(t, c, asks(3, 3, 0, 0), 7, phase.Bind)
	place(t, c, asks(4, 3, 0, 5), 7, phase.Bind)
	victims(t, c, asks(9, 5, 0, 0), 7)
	victims(t, c, asks(9, 5, 1, 0), 7, 2)
	victims(t, c, asks(9, 5, 0, 5), 7, 4)
	victims(t, c, asks(9, 5, 5, 5), 7, 2, 4)
	minimal(t, c, asks(9, 5, 5, 5), 7, false, 1, 2, 4)
	minimal(t, c, asks(9, 5, 5, 5), 7, false, 2, 4, 3)
}

// P18.1 to P18.3: what is terminating stays until it is gone, and a reservation that the pod sees counts.
func TestOthers(t *testing.T) {
	c := made(t, 1, has(7, 20))
	place(t, c, asks(1, 1, 3), 7, phase.Bind)
	place(t, c, asks(2, 1, 4), 7, phase.Bind, phase.Evict)
	place(t, c, asks(3, 5, 5), 7, phase.Claim)
	place(t, c, asks(4, 1, 6), 7, phase.Bind)
	for _, x := range []struct {
		id, priority int
		request      int64
		ok           bool
		want         []int
	}{
		{9, 5, 2, true, nil},
		{9, 5, 3, true, []int{4}},
		{9, 5, 8, true, []int{4}},
		{9, 5, 9, true, []int{1, 4}},
		{9, 5, 11, true, []int{1, 4}},
		{9, 5, 12, false, nil},
		// A greater priority does not see the reservation.
		{9, 6, 7, true, nil},
		{9, 6, 8, true, []int{4}},
		{9, 6, 16, true, []int{1, 4}},
		{9, 6, 17, false, nil},
		// Nor does the pod itself.
		{3, 5, 7, true, nil},
		{3, 5, 16, true, []int{1, 4}},
		{3, 5, 17, false, nil},
		// Nothing is lower.
		{9, 1, 2, true, nil},
		{9, 1, 3, false, nil},
	} {
		p := asks(x.id, x.priority, x.request)
		if x.ok {
			victims(t, c, p, 7, x.want...)
		} else {
			impossible(t, c, p, 7)
		}
	}
	// The pod 2 could be left out, although it is not lower, and the reservation of the pod 3 cannot.
	p := asks(9, 5, 15)
	impossible(t, c, p, 7)
	minimal(t, c, p, 7, true, 1, 2, 4)
	minimal(t, c, p, 7, false, 1, 2, 3, 4)
	minimal(t, c, p, 7, false, 1, 3, 4)
	minimal(t, c, asks(9, 5, 16), 7, false, 1, 2, 3, 4)
	minimal(t, c, asks(9, 5, 3), 7, true, 2)
	minimal(t, c, asks(9, 5, 3), 7, false, 3)
	minimal(t, c, asks(9, 5, 2), 7, false, 3)
}

// P18.1, P18.2: the phase and most other fields of the pod do not matter, nor whether it preempts.
func TestPodFields(t *testing.T) {
	c := made(t, 1, has(7, 10))
	bound(t, c, 3, 3, 4, 3)
	for _, phase := range []int{0, api.Pending, api.Nominated, api.Bound, api.Terminating, api.Gone, -1, math.MaxInt} {
		for _, node := range []int{0, 7, api.None} {
			for _, preempts := range []bool{false, true} {
				p := api.Pod{ID: 9, Priority: 5, Phase: phase, Node: node, Deadline: 9, Grace: 3, Arrival: 8, Preempts: preempts, Request: vector(4)}
				lower(t, c, p, 7, 0, 1, 2)
				victims(t, c, p, 7, 1)
			}
		}
	}
}

// P18.3: a list is minimal if it is enough, and no part of it is, also if there is another list.
func TestMinimal(t *testing.T) {
	c := made(t, 1, has(7, 12))
	bound(t, c, 3, 3, 4, 3)
	p := asks(9, 5, 6)
	for _, x := range []struct {
		want bool
		ids  []int
	}{
		{true, []int{1}},
		{true, []int{0, 2}},
		{true, []int{2, 0}},
		{false, nil},
		{false, []int{}},
		{false, []int{0}},
		{false, []int{2}},
		{false, []int{0, 1}},
		{false, []int{1, 0}},
		{false, []int{1, 2}},
		{false, []int{0, 1, 2}},
		{false, []int{2, 1, 0}},
	} {
		minimal(t, c, p, 7, x.want, x.ids...)
	}
	// The pod fits as it is, so that nothing has to be left out.
	p = asks(9, 5, 2)
	minimal(t, c, p, 7, true)
	minimal(t, c, p, 7, false, 0)
	minimal(t, c, p, 7, false, 0, 1, 2)
	minimal(t, c, p, 7, false, 77)
	// All have to be left out, or even that is not enough.
	minimal(t, c, asks(9, 5, 12), 7, true, 1, 2, 0)
	minimal(t, c, asks(9, 5, 12), 7, false, 1, 2)
	minimal(t, c, asks(9, 5, 13), 7, false, 0, 1, 2)
}

// P18.3: only the IDs of a list matter, and the pods need not be lower.
func TestMinimalFields(t *testing.T) {
	c := made(t, 1, has(7, 10))
	bound(t, c, 3, 3, 4, 3)
	for _, request := range [][]int64{nil, {0}, {4}, {99}, {-9}, {1, 2, 3}, {math.MinInt64}} {
		for _, phase := range []int{0, api.Nominated, api.Bound, api.Terminating, api.Gone} {
			for _, priority := range []int{math.MinInt, 3, 5, math.MaxInt} {
				q := api.Pod{ID: 1, Request: request, Phase: phase, Priority: priority, Node: 3}
				if l := []api.Pod{q}; !Minimal(c, asks(9, priority, 4), 7, l) || Minimal(c, asks(9, priority, 5), 7, l) {
					t.Error("minimal depends on", q)
				}
				q.ID = 0
				if Minimal(c, asks(9, priority, 4), 7, []api.Pod{q}) {
					t.Error("minimal depends on", q)
				}
			}
		}
	}
}

// P18.3: an ID that is not on the node, or occurs again, is not needed.
func TestMinimalUnneeded(t *testing.T) {
	c := made(t, 1, has(7, 10), has(8, 10))
	bound(t, c, 3, 3, 4, 3)
	place(t, c, asks(3, 3, 4), 8, phase.Bind)
	place(t, c, asks(4, 3, 4), 7)
	p := asks(9, 5, 4)
	minimal(t, c, p, 7, true, 1)
	for _, id := range []int{3, 4, 5, 9, -1, math.MinInt, math.MaxInt, 1 + 1<<32, 1} {
		minimal(t, c, p, 7, false, 1, id)
		minimal(t, c, p, 7, false, id, 1)
		minimal(t, c, p, 7, false, id, 1, id)
		minimal(t, c, p, 7, false, id, id)
	}
	minimal(t, c, p, 7, true, 0, 2)
	for _, l := range [][]int{{0, 0}, {0, 2, 0}, {2, 2, 0}, {0, 0, 2}, {0, 2, 2, 0}, {0, 0, 0}} {
		minimal(t, c, p, 7, false, l...)
	}
	minimal(t, c, p, 8, true)
	minimal(t, c, asks(9, 5, 7), 8, true, 3)
	minimal(t, c, asks(9, 5, 7), 8, false, 3, 3)
}

// P18.3: IDs are in the given order, and each occurrence counts.
func TestIDs(t *testing.T) {
	l := []api.Pod{asks(5, 1, 3), asks(-1, 9), asks(math.MaxInt, 0), asks(5, 2), asks(0, 0), asks(math.MinInt, 1)}
	if got := IDs(l); !slices.Equal(got, []int{5, -1, math.MaxInt, 5, 0, math.MinInt}) {
		t.Error("the IDs are", got)
	}
	if len(IDs(nil)) > 0 || len(IDs([]api.Pod{})) > 0 {
		t.Error("there are IDs without pods")
	}
}

// P18.1 to P18.3: no node is possible for a pod whose request is not valid.
func TestWrongRequest(t *testing.T) {
	c := made(t, 2, has(7, 9, 9), has(8, api.MaxAmount, api.MaxAmount))
	place(t, c, asks(1, 3, 4, 4), 7, phase.Bind)
	for _, request := range [][]int64{
		nil,
		{},
		{0},
		{5},
		{0, 0, 0},
		{-1, 0},
		{0, -1},
		{6, -1},
		{math.MinInt64, math.MinInt64},
		{math.MinInt64, math.MaxInt64},
		{api.MaxAmount + 1, 0},
		{0, api.MaxAmount + 1},
		{math.MaxInt64, math.MaxInt64},
	} {
		p := asks(9, 5, request...)
		lower(t, c, p, 7, 1)
		for _, node := range []int{7, 8} {
			impossible(t, c, p, node)
			minimal(t, c, p, node, false)
			minimal(t, c, p, node, false, 1)
		}
	}
	victims(t, c, asks(9, 5, api.MaxAmount, api.MaxAmount), 8)
}

// P18.1 to P18.3: in the dimension 0 a pod fits on each node as it is.
func TestNoDimension(t *testing.T) {
	c := made(t, 0, has(7))
	place(t, c, asks(1, 3), 7, phase.Bind)
	place(t, c, asks(2, 3), 7, phase.Bind)
	p := asks(9, 5)
	lower(t, c, p, 7, 1, 2)
	victims(t, c, p, 7)
	minimal(t, c, p, 7, false, 1)
	minimal(t, c, p, 7, false, 2, 1)
	impossible(t, c, asks(9, 5, 0), 7)
}

// P18.1 to P18.3: a nil cluster has no nodes.
func TestNil(t *testing.T) {
	for _, p := range []api.Pod{{}, asks(1, 5), asks(1, 5, 3), asks(1, 5, -1)} {
		for _, node := range []int{0, 7, api.None, math.MinInt, math.MaxInt} {
			lower(t, nil, p, node)
			impossible(t, nil, p, node)
			minimal(t, nil, p, node, false)
			minimal(t, nil, p, node, false, 1, 2)
		}
	}
}

// Rule 5: arguments are not changed, and results share no memory with the cluster or each other.
func TestResultsAreCopies(t *testing.T) {
	c := made(t, 1, has(7, 10))
	bound(t, c, 3, 3, 4, 3)
	request := []int64{7, 77}
	p := asks(9, 5, request[:1]...)
	l := []api.Pod{asks(2, 0, 5), asks(1, 0, 6), asks(0, 0, 7), asks(77, 0, 8)}
	for range 2 {
		for _, q := range Lower(c, p, 7) {
			q.Request[0] = 99
		}
		got, _ := Of(c, p, 7)
		again, _ := Of(c, p, 7)
		for i := range got {
			got[i].Request[0] = 99
			got[i].ID = 99
		}
		known(t, c, "again", again, 1, 2)
		lower(t, c, p, 7, 0, 1, 2)
		victims(t, c, p, 7, 1, 2)
		IDs(l[:3])[0] = 99
		if !Minimal(c, asks(9, 5, 10), 7, l[:3]) {
			t.Error("the list is not minimal")
		}
	}
	if !slices.Equal(request, []int64{7, 77}) {
		t.Error("the request is", request)
	}
	if !slices.Equal(IDs(l), []int{2, 1, 0, 77}) || l[0].Request[0] != 5 || l[1].Request[0] != 6 || l[2].Request[0] != 7 {
		t.Error("the list is", l)
	}
	if n, ok := c.Node(7); !ok || !slices.Equal(n.Capacity, vector(10)) || !slices.Equal(c.Free(7), vector(0)) {
		t.Error("the node is", n, ok, "with", c.Free(7))
	}
}

// P18.2, P18.3: the greatest amounts on a node do not overflow.
func TestGreatAmounts(t *testing.T) {
	c := made(t, 1, has(7, api.MaxAmount))
	place(t, c, asks(1, 1, api.MaxAmount), 7, phase.Bind)
	place(t, c, asks(2, 1, 0), 7, phase.Bind)
	for id := range 9 {
		place(t, c, asks(10+id, 9, api.MaxAmount), 7, phase.Claim)
	}
	victims(t, c, asks(99, 10, api.MaxAmount), 7, 1)
	victims(t, c, asks(99, 10, 1), 7, 1)
	victims(t, c, asks(99, 10, 0), 7)
	impossible(t, c, asks(99, 9, 0), 7)
	minimal(t, c, asks(99, 9, 0), 7, false, 1)
}

// P18.2, P18.3: as many pods as there may be on one node are looked at in a short time.
func TestManyPods(t *testing.T) {
	c := made(t, 1, has(7, api.MaxPods))
	var last []int
	for id := range api.MaxPods {
		place(t, c, asks(id, 0, 1), 7, phase.Bind)
		if id >= api.MaxPods/2 {
			last = append(last, id)
		}
	}
	victims(t, c, asks(-1, 1, api.MaxPods/2), 7, last...)
	minimal(t, c, asks(-1, 1, api.MaxPods/2+1), 7, false, last...)
	minimal(t, c, asks(-1, 1, api.MaxPods/2-1), 7, false, last...)
}

// numbers returns a function whose results are the same in every run.
func numbers() func(below int) int {
	x := uint64(1)
	return func(below int) int {
		x = x*6364136223846793005 + 1442695040888963407
		return int(x>>33) % below
	}
}

// crowd returns a cluster with nodes 0 to 2, on which there are pods 0 to 29 in many phases.
func crowd(t *testing.T, next func(int) int) *cluster.Cluster {
	t.Helper()
	c := made(t, 2)
	for node := range 3 {
		if err := c.AddNode(has(node, int64(10+next(20)), int64(10+next(20)))); err != nil {
			t.Fatal(err)
		}
	}
	for i := range 30 {
		// Another order than that of the IDs, since 7 has no factor in common with 30.
		id, node := i*7%30, next(3)
		place(t, c, asks(id, next(4), int64(next(6)), int64(next(6))), 0)
		if next(6) == 0 {
			if _, err := c.Claim(id, node); err != nil {
				t.Fatal(err)
			}
			continue
		}
		// Some do not fit, and stay pending.
		if _, err := c.Bind(id, node); err == nil && next(6) == 0 {
			if _, err := c.Change(id, phase.Evict, 50); err != nil {
				t.Fatal(err)
			}
		}
	}
	return c
}

// below returns the lower pods as the chapter defines them.
func below(c *cluster.Cluster, p api.Pod, node int) []api.Pod {
	var l []api.Pod
	for _, q := range c.Pods() {
		if q.Phase == api.Bound && q.Node == node && q.Priority < p.Priority {
			l = append(l, q)
		}
	}
	slices.SortFunc(l, rank.Compare)
	return l
}

// defined returns the IDs of the victims as the chapter defines them, step by step.
func defined(c *cluster.Cluster, p api.Pod, node int) []int {
	still := IDs(below(c, p, node))
	for _, q := range below(c, p, node) {
		others := slices.DeleteFunc(slices.Clone(still), func(id int) bool { return id == q.ID })
		if load.Fits(c, p, node, others...) {
			still = others
		}
	}
	return still
}

// P18.1, P18.2, P18.4: in crowded clusters the lower pods and the victims are those that the definitions give, and Minimal holds for them.
func TestDefinitions(t *testing.T) {
	next := numbers()
	possible, some, not := 0, 0, 0
	for range 100 {
		c := crowd(t, next)
		for id := range 32 {
			p := asks(id, next(6), int64(next(20)), int64(next(20)))
			for node := range 3 {
				all := IDs(below(c, p, node))
				lower(t, c, p, node, all...)
				if !load.Fits(c, p, node, all...) {
					impossible(t, c, p, node)
					not++
					continue
				}
				want := defined(c, p, node)
				victims(t, c, p, node, want...)
				possible++
				if len(want) > 0 && len(want) < len(all) {
					some++
				}
			}
		}
	}
	if possible < 1000 || some < 1000 || not < 1000 {
		t.Error("too few cases:", possible, some, not)
	}
}

// P18.3: in crowded clusters Minimal says of any list what the definition says.
func TestMinimalDefinition(t *testing.T) {
	next := numbers()
	yes, no := 0, 0
	for range 100 {
		c := crowd(t, next)
		for range 100 {
			p, node := asks(next(35), next(6), int64(next(20)), int64(next(20))), next(3)
			var ids []int
			for _, q := range c.On(node) {
				if next(2) == 0 {
					ids = append(ids, q.ID)
				}
			}
			if next(9) == 0 {
				ids = append(ids, next(35))
			}
			// Now and then these are needed.
			for i := 0; i < len(ids); {
				others := slices.Delete(slices.Clone(ids), i, i+1)
				if load.Fits(c, p, node, others...) && next(9) > 0 {
					ids = others
				} else {
					i++
				}
			}
			want := load.Fits(c, p, node, ids...)
			for i := range ids {
				want = want && !load.Fits(c, p, node, slices.Delete(slices.Clone(ids), i, i+1)...)
			}
			minimal(t, c, p, node, want, ids...)
			if want {
				yes++
			} else {
				no++
			}
		}
	}
	if yes < 1000 || no < 1000 {
		t.Error("too few cases:", yes, no)
	}
}

// P18.4: the victims are lower pods, in order, and there are none exactly if the pod fits as it is.
func TestConsequences(t *testing.T) {
	next := numbers()
	none := 0
	for range 100 {
		c := crowd(t, next)
		for id := range 32 {
			p, node := asks(id, next(6), int64(next(20)), int64(next(20))), next(3)
			l, ok := Of(c, p, node)
			if fits := load.Fits(c, p, node); fits != (ok && len(l) == 0) {
				t.Error(p, "fits on", node, fits, "with the victims", l, ok)
			} else if fits {
				none++
			}
			if ok && !Minimal(c, p, node, l) {
				t.Error("the victims", l, "for", p, "on", node, "are not minimal")
			}
			all := IDs(Lower(c, p, node))
			for i, q := range l {
				if !slices.Contains(all, q.ID) || i > 0 && !rank.Before(l[i-1], q) {
					t.Error("the victims are", l, "of the lower pods", all)
				}
			}
		}
	}
	if none < 100 {
		t.Error("too few cases:", none)
	}
}
