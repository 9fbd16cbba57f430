package cluster

import (
	"errors"
	"math"
	"reflect"
	"slices"
	"testing"

	"hammock/api"
	"hammock/phase"
)

// events are all events, and numbers that are none.
var events = []int{phase.Bind, phase.Claim, phase.Clear, phase.Evict, phase.Free, 0, 6, -1, 257, math.MinInt, math.MaxInt}

// outside are IDs that the clusters of most tests do not have.
var outside = []int{-2, 99, 255, 256, 1 << 31, 1<<32 + 1, math.MinInt + 1, math.MaxInt - 1}

// vector returns its arguments.
func vector(v ...int64) []int64 { return v }

// at returns a node with an ID and a capacity.
func at(id int, capacity ...int64) api.Node { return api.Node{ID: id, Capacity: capacity} }

// of returns a pod with an ID and a request, as it is after Submit. Its other fields depend on the ID.
func of(id, arrival int, request ...int64) api.Pod {
	return api.Pod{
		ID:       id,
		Priority: id % 3,
		Preempts: id%2 == 0,
		Grace:    id ^ 5,
		Request:  request,
		Arrival:  arrival,
		Phase:    api.Pending,
		Node:     api.None,
		Deadline: api.None,
	}
}

// changed returns a pod with another phase, node and deadline.
func changed(p api.Pod, phase, node, deadline int) api.Pod {
	p.Phase, p.Node, p.Deadline = phase, node, deadline
	return p
}

// gone returns a pod that is Gone.
func gone(p api.Pod) api.Pod { return changed(p, api.Gone, api.None, api.None) }

// same reports whether two pods have the same fields.
func same(p, q api.Pod) bool {
	equal := slices.Equal(p.Request, q.Request)
	return equal && p.ID == q.ID && p.Priority == q.Priority && p.Preempts == q.Preempts && p.Grace == q.Grace &&
		p.Arrival == q.Arrival && p.Phase == q.Phase && p.Node == q.Node && p.Deadline == q.Deadline
}

// sameNode reports whether two nodes have the same fields.
func sameNode(m, n api.Node) bool { return m.ID == n.ID && slices.Equal(m.Capacity, n.Capacity) }

// isFault reports whether an error is the api.Fault with a code and an index, or nil for the code 0.
func isFault(err error, code api.Code, at int) bool {
	if code == 0 {
		return err == nil
	}
	return err == api.Fault{Code: code, At: at}
}

// answers checks that a pod and an error are those of a call that returns a pod, or a zero Pod with an error.
func answers(t *testing.T, p api.Pod, err error, want api.Pod, code api.Code, at int) {
	t.Helper()
	if code != 0 {
		want = api.Pod{}
	}
	if !same(p, want) || !isFault(err, code, at) {
		t.Error("answer:", p, err, "want", want, code, at)
	}
}

// model is what a cluster should have, with the nodes in any order. Its usages are sums over its pods.
type model struct {
	dims  int
	nodes []api.Node
	pods  []api.Pod
}

// used returns the sum of the requests of the pods that hold resources of a node.
func (m *model) used(node int) []int64 {
	v := make([]int64, m.dims)
	for _, p := range m.pods {
		if p.Node == node && (p.Phase == api.Bound || p.Phase == api.Terminating) {
			for i, x := range p.Request {
				v[i] += x
			}
		}
	}
	return v
}

// free returns what is free of a node.
func (m *model) free(n api.Node) []int64 {
	v := slices.Clone(n.Capacity)
	for i, x := range m.used(n.ID) {
		v[i] -= x
	}
	return v
}

// on returns the pods that are nominated, bound or terminating on a node.
func (m *model) on(node int) []api.Pod {
	var l []api.Pod
	for _, p := range m.pods {
		if p.Node == node && p.Phase != api.Pending && p.Phase != api.Gone {
			l = append(l, p)
		}
	}
	return l
}

// node returns the index of the node with an ID, or -1.
func (m *model) node(id int) int {
	return slices.IndexFunc(m.nodes, func(n api.Node) bool { return n.ID == id })
}

// pod returns the index of the pod with an ID, or -1.
func (m *model) pod(id int) int {
	return slices.IndexFunc(m.pods, func(p api.Pod) bool { return p.ID == id })
}

// holds checks that a cluster has exactly the nodes and the pods of a model, by every method that does not change it.
func holds(t *testing.T, c *Cluster, m *model) {
	t.Helper()
	if c.Dims() != m.dims {
		t.Error("dimension:", c.Dims(), "want", m.dims)
	}
	sorted := slices.Clone(m.nodes)
	slices.SortFunc(sorted, func(a, b api.Node) int {
		if a.ID < b.ID {
			return -1
		}
		return 1
	})
	if got := c.Nodes(); !slices.EqualFunc(got, sorted, sameNode) {
		t.Error("nodes:", got, "want", sorted)
	}
	for _, n := range m.nodes {
		if got, ok := c.Node(n.ID); !ok || !sameNode(got, n) {
			t.Error("node:", got, ok, "want", n)
		}
		if got, want := c.Free(n.ID), m.free(n); !slices.Equal(got, want) {
			t.Error("free of", n.ID, "is", got, "want", want)
		}
		if got, want := c.On(n.ID), m.on(n.ID); !slices.EqualFunc(got, want, same) {
			t.Error("node", n.ID, "has", got, "want", want)
		}
	}
	if got := c.Pods(); !slices.EqualFunc(got, m.pods, same) {
		t.Error("pods:", got, "want", m.pods)
	}
	for _, p := range m.pods {
		if got, ok := c.Pod(p.ID); !ok || !same(got, p) {
			t.Error("pod:", got, ok, "want", p)
		}
	}
	for _, id := range outside {
		if m.node(id) < 0 {
			lacksNode(t, c, id)
		}
		if m.pod(id) < 0 {
			lacksPod(t, c, id)
		}
	}
}

// lacksNode checks that a cluster has no node with an ID, by every method that needs no pod and does not add one.
func lacksNode(t *testing.T, c *Cluster, id int) {
	t.Helper()
	if n, ok := c.Node(id); ok || !sameNode(n, api.Node{}) {
		t.Error("node", id, "is", n, ok)
	}
	if free := c.Free(id); len(free) != 0 {
		t.Error("free of", id, "is", free)
	}
	if l := c.On(id); len(l) != 0 {
		t.Error("node", id, "has", l)
	}
	if l, err := c.DropNode(id); len(l) != 0 || !isFault(err, api.Unknown, 0) {
		t.Error("drop of", id, "returns", l, err)
	}
}

// lacksPod checks that a cluster has no pod with an ID, by every method that does not add one.
func lacksPod(t *testing.T, c *Cluster, id int) {
	t.Helper()
	if p, ok := c.Pod(id); ok || !same(p, api.Pod{}) {
		t.Error("pod", id, "is", p, ok)
	}
	// An unknown pod comes before a node or an event that does not exist.
	for _, node := range []int{0, 1, 2, -1, math.MaxInt} {
		p, err := c.Bind(id, node)
		answers(t, p, err, api.Pod{}, api.Unknown, 0)
		p, err = c.Claim(id, node)
		answers(t, p, err, api.Pod{}, api.Unknown, 0)
	}
	for _, event := range events {
		p, err := c.Change(id, event, 5)
		answers(t, p, err, api.Pod{}, api.Unknown, 0)
	}
}

// made returns a cluster and its model with nodes and with pods that are pending, which must be right.
func made(t *testing.T, dims int, nodes []api.Node, pods ...api.Pod) (*Cluster, *model) {
	t.Helper()
	c := New(dims)
	for _, n := range nodes {
		if err := c.AddNode(n); err != nil {
			t.Fatal(n, err)
		}
	}
	for _, p := range pods {
		if _, err := c.Submit(p); err != nil {
			t.Fatal(p, err)
		}
	}
	return c, &model{dims, nodes, pods}
}

// apply applies an event with a node and a deadline to a pod, by the method for it.
func apply(c *Cluster, id, event, node, deadline int) (api.Pod, error) {
	switch event {
	case phase.Bind:
		return c.Bind(id, node)
	case phase.Claim:
		return c.Claim(id, node)
	}
	return c.Change(id, event, deadline)
}

// run applies events with a node to a pod, which must apply, with the deadline 50, and returns it afterwards.
func run(t *testing.T, c *Cluster, id, node int, events ...int) api.Pod {
	t.Helper()
	for _, event := range events {
		if _, err := apply(c, id, event, node, 50); err != nil {
			t.Fatal(id, event, err)
		}
	}
	p, _ := c.Pod(id)
	return p
}

// runs are runs of events that apply, which lead to each phase in several ways.
func runs() [][]int {
	return [][]int{
		{},
		{phase.Claim, phase.Clear},
		{phase.Claim},
		{phase.Claim, phase.Claim},
		{phase.Bind},
		{phase.Claim, phase.Bind},
		{phase.Bind, phase.Evict},
		{phase.Claim, phase.Bind, phase.Evict},
		{phase.Free},
		{phase.Claim, phase.Free},
		{phase.Bind, phase.Free},
		{phase.Bind, phase.Evict, phase.Free},
	}
}

// waits reports whether a pod is pending or nominated.
func waits(p api.Pod) bool { return p.Phase == api.Pending || p.Phase == api.Nominated }

// P14.1: a new cluster is empty, and a negative dimension is treated as 0.
func TestNewIsEmpty(t *testing.T) {
	for dims, want := range map[int]int{0: 0, 1: 1, 2: 2, api.MaxDims: api.MaxDims, 1000: 1000, math.MaxInt: math.MaxInt, -1: 0, -9: 0, math.MinInt: 0} {
		c := New(dims)
		if c == nil {
			t.Fatal("no cluster for", dims)
		}
		if c.Dims() != want || len(c.Nodes()) != 0 || len(c.Pods()) != 0 {
			t.Error(dims, c.Dims(), c.Nodes(), c.Pods())
		}
		for _, id := range []int{0, 1, -1} {
			lacksNode(t, c, id)
			lacksPod(t, c, id)
		}
	}
}

// P14.1: clusters are apart.
func TestClustersAreApart(t *testing.T) {
	a, m := made(t, 1, []api.Node{at(1, 5)}, of(1, 0, 3))
	b, n := made(t, 2, []api.Node{at(1, 7, 7), at(2, 1, 1)}, of(2, 0, 3, 3), of(1, 1, 4, 4))
	m.pods[0] = run(t, a, 1, 1, phase.Bind)
	holds(t, b, n)
	n.pods[1] = run(t, b, 1, 2, phase.Claim)
	holds(t, a, m)
	holds(t, b, n)
}

// invalid returns vectors that are not valid for the dimension 2, with the index of what is wrong.
func invalid() []struct {
	v  []int64
	at int
} {
	return []struct {
		v  []int64
		at int
	}{
		{nil, 0},
		{vector(), 0},
		{vector(1), 1},
		{vector(1, 2, 3), 2},
		{vector(1, 2, 3, 4), 2},
		{vector(-1, 2), 0},
		{vector(1, -1), 1},
		{vector(1, math.MinInt64), 1},
		{vector(api.MaxAmount+1, 2), 0},
		{vector(1, api.MaxAmount+1), 1},
		{vector(math.MaxInt64, -1), 0},
		// An element that is out of range comes before a dimension that is not right.
		{vector(-1), 0},
		{vector(1, 2, -1), 2},
		{vector(1, 2, 3, -1), 3},
		{vector(1, -1, -1), 1},
	}
}

// P14.1: nodes whose capacities are valid are added, and others are not.
func TestAddNodeCapacities(t *testing.T) {
	for _, v := range [][]int64{{0, 0}, {1, 2}, {api.MaxAmount, 0}, {api.MaxAmount, api.MaxAmount}} {
		c := New(2)
		if err := c.AddNode(at(3, v...)); err != nil {
			t.Error(v, err)
		}
		holds(t, c, &model{2, []api.Node{at(3, v...)}, nil})
	}
	for _, x := range invalid() {
		c, m := made(t, 2, []api.Node{at(1, 5, 5)})
		if err := c.AddNode(at(2, x.v...)); !isFault(err, api.BadAmount, x.at) {
			t.Error(x, err)
		}
		// This comes before the duplicate.
		if err := c.AddNode(at(1, x.v...)); !isFault(err, api.BadAmount, x.at) {
			t.Error(x, err)
		}
		holds(t, c, m)
	}
	empty := New(0)
	if err := empty.AddNode(at(1, 0)); !isFault(err, api.BadAmount, 0) {
		t.Error(err)
	}
	if err := empty.AddNode(at(1)); err != nil {
		t.Error(err)
	}
}

// P14.1: a duplicate does not replace the node that is there, nor its usage.
func TestAddNodeDuplicates(t *testing.T) {
	for _, id := range []int{1, 0, -1, -7, api.MaxID, math.MinInt, math.MaxInt} {
		c, m := made(t, 1, []api.Node{at(id, 5)}, of(1, 0, 3))
		m.pods[0] = run(t, c, 1, id, phase.Bind)
		for _, capacity := range []int64{5, 9, 0} {
			if err := c.AddNode(at(id, capacity)); !isFault(err, api.Duplicate, 0) {
				t.Error(id, capacity, err)
			}
			holds(t, c, m)
		}
	}
}

// P14.1: there is room for MaxNodes nodes, and no more.
func TestMostNodes(t *testing.T) {
	c, m := New(1), &model{dims: 1}
	for i := range api.MaxNodes {
		// In an order that is not that of the IDs.
		n := at(i*5%api.MaxNodes, int64(i))
		if err := c.AddNode(n); err != nil {
			t.Fatal(i, err)
		}
		m.nodes = append(m.nodes, n)
	}
	for _, x := range []struct {
		n    api.Node
		code api.Code
		at   int
	}{
		{at(api.MaxNodes, 1), api.Full, 0},
		{at(-1, 1), api.Full, 0},
		{at(7, 1), api.Duplicate, 0},
		{at(7, 1, 2), api.BadAmount, 1},
		{at(-1, -1), api.BadAmount, 0},
	} {
		if err := c.AddNode(x.n); !isFault(err, x.code, x.at) {
			t.Error(x, err)
		}
	}
	holds(t, c, m)
	// A node that is removed leaves room.
	if _, err := c.DropNode(7); err != nil {
		t.Error(err)
	}
	if err := c.AddNode(at(api.MaxNodes, 1)); err != nil {
		t.Error(err)
	}
	if err := c.AddNode(at(7, 1)); !isFault(err, api.Full, 0) {
		t.Error(err)
	}
}

// P14.1: which fields of a pod are set, and that the others stay as they are, also if they are beyond the limits.
func TestSubmitFields(t *testing.T) {
	for _, x := range []api.Pod{
		{Request: vector(0)},
		{ID: -5, Request: vector(1)},
		{ID: 3, Priority: 7, Preempts: true, Grace: 9, Request: vector(api.MaxAmount)},
		{ID: 4, Request: vector(2), Arrival: 6, Phase: api.Bound, Node: 1, Deadline: 8},
		{ID: 4, Request: vector(2), Arrival: -6, Phase: api.Terminating, Node: 1, Deadline: 0},
		{ID: 4, Request: vector(2), Arrival: 1, Phase: api.Nominated, Node: 1, Deadline: -2},
		{ID: math.MinInt, Priority: math.MinInt, Grace: math.MinInt, Request: vector(1), Arrival: math.MinInt, Phase: math.MinInt, Node: math.MinInt, Deadline: math.MinInt},
		{ID: math.MaxInt, Priority: math.MaxInt, Grace: math.MaxInt, Request: vector(1), Arrival: math.MaxInt, Phase: math.MaxInt, Node: math.MaxInt, Deadline: math.MaxInt},
	} {
		c, m := made(t, 1, []api.Node{at(1, 5)})
		for i := range 3 {
			p, err := c.Submit(x)
			want := changed(x, api.Pending, api.None, api.None)
			want.Arrival = i
			answers(t, p, err, want, 0, 0)
			m.pods = append(m.pods, want)
			holds(t, c, m)
			x.ID ^= i + 1
		}
	}
}

// P14.1: pods whose requests are not valid are not added, which comes before all other errors.
func TestSubmitRequests(t *testing.T) {
	for _, x := range invalid() {
		c, m := made(t, 2, []api.Node{at(1, 5, 5)}, of(1, 0, 3, 3))
		for _, id := range []int{2, 1, -1} {
			p, err := c.Submit(of(id, 0, x.v...))
			answers(t, p, err, api.Pod{}, api.BadAmount, x.at)
			holds(t, c, m)
		}
		// A pod that was not added does not count for the Arrivals, and is no duplicate.
		p, err := c.Submit(of(2, 0, 9, 9))
		answers(t, p, err, of(2, 1, 9, 9), 0, 0)
	}
	empty := New(0)
	p, err := empty.Submit(of(1, 0, 0))
	answers(t, p, err, api.Pod{}, api.BadAmount, 0)
	p, err = empty.Submit(of(1, 0))
	answers(t, p, err, of(1, 0), 0, 0)
}

// P14.1: a duplicate does not replace the pod that is there, whatever its phase is.
func TestSubmitDuplicates(t *testing.T) {
	for _, before := range runs() {
		c, m := made(t, 1, []api.Node{at(3, 5)}, of(1, 0, 3))
		m.pods[0] = run(t, c, 1, 3, before...)
		p, err := c.Submit(api.Pod{ID: 1, Priority: 100, Request: vector(1)})
		answers(t, p, err, api.Pod{}, api.Duplicate, 0)
		holds(t, c, m)
	}
}

// P14.1: there is room for MaxPods pods, and no more, also if some are gone; the first error counts.
func TestMostPods(t *testing.T) {
	c := New(1)
	for i := range api.MaxPods {
		if p, err := c.Submit(of(i, 0, 1)); err != nil || p.Arrival != i {
			t.Fatal(i, p, err)
		}
	}
	run(t, c, 7, 0, phase.Free)
	for _, x := range []struct {
		p    api.Pod
		code api.Code
		at   int
	}{
		{of(api.MaxPods, 0, 1), api.Full, 0},
		{of(-1, 0, 1), api.Full, 0},
		{of(7, 0, 1), api.Duplicate, 0},
		{of(8, 0, 1), api.Duplicate, 0},
		{of(8, 0, -1), api.BadAmount, 0},
		{of(api.MaxPods, 0, 1, 1), api.BadAmount, 1},
	} {
		p, err := c.Submit(x.p)
		answers(t, p, err, api.Pod{}, x.code, x.at)
	}
	if n := len(c.Pods()); n != api.MaxPods {
		t.Error(n)
	}
}

// P14.2: what Bind and Claim do in every phase, on the node of the pod, on another one, on a full one and on an unknown one.
func TestPlace(t *testing.T) {
	for _, before := range runs() {
		for _, event := range []int{phase.Bind, phase.Claim} {
			for _, node := range []int{3, 4, 5, 6, api.None, math.MinInt} {
				nodes := []api.Node{at(3, 8, 8), at(4, 5, 3), at(5, 6, 2)}
				c, m := made(t, 2, nodes, of(0, 0, 3, 3), of(1, 1, 5, 3), of(2, 2, 1, 1))
				m.pods[0] = run(t, c, 0, 3, phase.Bind)
				m.pods[1] = run(t, c, 1, 3, before...)
				m.pods[2] = run(t, c, 2, 3, phase.Claim)
				want, code, index := m.pods[1], api.Code(0), 0
				switch {
				case node < 3 || node > 5:
					code, index = api.Unknown, 1
				case !waits(want):
					code = api.BadPhase
				case event == phase.Claim:
					want = changed(want, api.Nominated, node, api.None)
				case node == 5:
					code = api.Overflow
				default:
					want = changed(want, api.Bound, node, api.None)
				}
				p, err := apply(c, 1, event, node, 0)
				answers(t, p, err, want, code, index)
				m.pods[1] = want
				if holds(t, c, m); t.Failed() {
					t.Fatal(before, event, node)
				}
			}
		}
	}
}

// P14.2: the first one of several errors: the pod, the node, the phase, the capacity.
func TestPlaceErrors(t *testing.T) {
	c, m := made(t, 1, []api.Node{at(1, 5), at(2, 1)}, of(7, 0, 5), of(8, 1, 2))
	m.pods[0] = run(t, c, 7, 1, phase.Bind)
	for i, x := range []struct {
		event, id, node int
		code            api.Code
		at              int
	}{
		{phase.Bind, 9, 9, api.Unknown, 0},
		{phase.Bind, 9, 2, api.Unknown, 0},
		{phase.Bind, 7, 9, api.Unknown, 1},
		{phase.Bind, 8, 9, api.Unknown, 1},
		{phase.Bind, 7, 2, api.BadPhase, 0},
		{phase.Bind, 7, 1, api.BadPhase, 0},
		{phase.Bind, 8, 2, api.Overflow, 0},
		{phase.Bind, 8, 1, api.Overflow, 0},
		{phase.Claim, 9, 9, api.Unknown, 0},
		{phase.Claim, 9, 1, api.Unknown, 0},
		{phase.Claim, 7, 9, api.Unknown, 1},
		{phase.Claim, 8, 9, api.Unknown, 1},
		{phase.Claim, 7, 2, api.BadPhase, 0},
		// The ID of a pod is no node, and that of a node is no pod.
		{phase.Bind, 8, 8, api.Unknown, 1},
		{phase.Claim, 1, 1, api.Unknown, 0},
	} {
		p, err := apply(c, x.id, x.event, x.node, 0)
		answers(t, p, err, api.Pod{}, x.code, x.at)
		if holds(t, c, m); t.Failed() {
			t.Fatal(i, x)
		}
	}
}

// P14.2: the usage may reach the capacity in each element, and not exceed it in any.
func TestBindUpToTheCapacity(t *testing.T) {
	for _, x := range []struct {
		capacity, first, second []int64
		code                    api.Code
	}{
		{vector(5, 5), vector(3, 2), vector(2, 3), 0},
		{vector(5, 5), vector(3, 2), vector(3, 3), api.Overflow},
		{vector(5, 5), vector(3, 2), vector(2, 4), api.Overflow},
		{vector(5, 5), vector(5, 5), vector(0, 0), 0},
		{vector(5, 5), vector(5, 5), vector(0, 1), api.Overflow},
		{vector(5, 5), vector(0, 0), vector(5, 5), 0},
		{vector(5, 5), vector(0, 0), vector(6, 5), api.Overflow},
		{vector(0, 0), vector(0, 0), vector(0, 0), 0},
		{vector(0, 5), vector(0, 1), vector(1, 0), api.Overflow},
		{vector(api.MaxAmount, api.MaxAmount), vector(api.MaxAmount, 1), vector(0, api.MaxAmount-1), 0},
		{vector(api.MaxAmount, api.MaxAmount), vector(api.MaxAmount, 1), vector(0, api.MaxAmount), api.Overflow},
	} {
		c, m := made(t, 2, []api.Node{at(1, x.capacity...)}, of(1, 0, x.first...), of(2, 1, x.second...))
		m.pods[0] = run(t, c, 1, 1, phase.Bind)
		p, err := c.Bind(2, 1)
		answers(t, p, err, changed(m.pods[1], api.Bound, 1, api.None), x.code, 0)
		if x.code == 0 {
			m.pods[1] = p
		}
		holds(t, c, m)
	}
}

// P14.2: nominations need nothing of a node, so that there may be many, and also pods that do not fit on it.
func TestClaimsHoldNothing(t *testing.T) {
	c, m := made(t, 1, []api.Node{at(1, 5)}, of(1, 0, 5), of(2, 1, 5), of(3, 2, 99), of(4, 3, 0))
	for i := range m.pods {
		m.pods[i] = run(t, c, i+1, 1, phase.Claim)
	}
	holds(t, c, m)
	m.pods[1] = run(t, c, 2, 1, phase.Bind)
	holds(t, c, m)
	p, err := c.Bind(1, 1)
	answers(t, p, err, api.Pod{}, api.Overflow, 0)
	holds(t, c, m)
}

// P14.3: what Change does in every phase with every event and several deadlines; other pods stay as they are.
func TestChange(t *testing.T) {
	for _, before := range runs() {
		for _, event := range events {
			for _, deadline := range []int{api.None, 0, 7, 50, -2, api.MaxClock, math.MinInt, math.MaxInt} {
				c, m := made(t, 2, []api.Node{at(3, 9, 9), at(4, 9, 9)}, of(0, 0, 2, 1), of(1, 1, 5, 3), of(2, 2, 1, 1))
				m.pods[0] = run(t, c, 0, 3, phase.Bind)
				m.pods[1] = run(t, c, 1, 3, before...)
				m.pods[2] = run(t, c, 2, 4, phase.Bind)
				want, code := m.pods[1], api.Code(0)
				switch {
				case event == phase.Clear && want.Phase == api.Nominated:
					want = changed(want, api.Pending, api.None, api.None)
				case event == phase.Evict && want.Phase == api.Bound:
					want = changed(want, api.Terminating, 3, deadline)
				case event == phase.Free && want.Phase != api.Gone:
					want = gone(want)
				default:
					code = api.BadPhase
				}
				p, err := c.Change(1, event, deadline)
				answers(t, p, err, want, code, 0)
				m.pods[1] = want
				if holds(t, c, m); t.Failed() {
					t.Fatal(before, event, deadline)
				}
			}
		}
	}
}

// P14.3: a pod gives back what it held of its node, which another one can take then, and gives it back once.
func TestFreeGivesBack(t *testing.T) {
	for _, before := range [][]int{{phase.Bind}, {phase.Bind, phase.Evict}} {
		c, m := made(t, 1, []api.Node{at(1, 5), at(2, 5)}, of(1, 0, 4), of(2, 1, 3), of(3, 2, 2))
		m.pods[2] = run(t, c, 3, 2, phase.Bind)
		m.pods[0] = run(t, c, 1, 1, before...)
		p, err := c.Bind(2, 1)
		answers(t, p, err, api.Pod{}, api.Overflow, 0)
		m.pods[0] = run(t, c, 1, 1, phase.Free)
		holds(t, c, m)
		m.pods[1] = run(t, c, 2, 1, phase.Bind)
		holds(t, c, m)
		for range 3 {
			p, err = c.Change(1, phase.Free, 0)
			answers(t, p, err, api.Pod{}, api.BadPhase, 0)
			holds(t, c, m)
		}
	}
}

// P14.3: a pod that is nominated gives nothing back, as it held nothing.
func TestFreeOfNominated(t *testing.T) {
	c, m := made(t, 1, []api.Node{at(1, 5)}, of(1, 0, 3), of(2, 1, 3))
	m.pods[0] = run(t, c, 1, 1, phase.Bind)
	m.pods[1] = run(t, c, 2, 1, phase.Claim)
	m.pods[1] = run(t, c, 2, 1, phase.Free)
	holds(t, c, m)
}

// P14.4: the pods of a node in all phases, in the order of their Arrivals; other nodes and their pods stay as they are.
func TestDropNode(t *testing.T) {
	ids := []int{8, 3, 7, 1, 6, 2, 5, 4}
	c, m := made(t, 1, []api.Node{at(5, 20), at(2, 20)})
	for i, id := range ids {
		p := of(id, i, int64(id))
		if _, err := c.Submit(p); err != nil {
			t.Fatal(err)
		}
		m.pods = append(m.pods, p)
	}
	// The order of these changes is neither that of the Arrivals nor that of the IDs.
	for _, x := range []struct {
		id, node int
		events   []int
	}{
		{4, 5, []int{phase.Bind}},
		{5, 5, []int{phase.Bind, phase.Free}},
		{1, 5, []int{phase.Claim}},
		{2, 2, []int{phase.Bind}},
		{8, 5, []int{phase.Claim, phase.Bind}},
		{6, 2, []int{phase.Claim}},
		{3, 5, []int{phase.Bind, phase.Evict}},
	} {
		m.pods[m.pod(x.id)] = run(t, c, x.id, x.node, x.events...)
	}
	holds(t, c, m)
	left, err := c.DropNode(5)
	m.nodes = m.nodes[1:]
	var want []api.Pod
	for _, id := range []int{8, 3, 1, 4} {
		i := m.pod(id)
		if id == 1 {
			m.pods[i] = changed(m.pods[i], api.Pending, api.None, api.None)
		} else {
			m.pods[i] = gone(m.pods[i])
		}
		want = append(want, m.pods[i])
	}
	if err != nil || !slices.EqualFunc(left, want, same) {
		t.Error(left, err, "want", want)
	}
	holds(t, c, m)
	// It is unknown now, also to a pod.
	lacksNode(t, c, 5)
	p, err := c.Bind(1, 5)
	answers(t, p, err, api.Pod{}, api.Unknown, 1)
	// The pod that was nominated can be bound on the other one.
	m.pods[3] = run(t, c, 1, 2, phase.Bind)
	holds(t, c, m)
}

// P14.4: what is left of a pod in each phase by the removal of its node, and of another one.
func TestDropNodeInEachPhase(t *testing.T) {
	for _, before := range runs() {
		for _, id := range []int{3, 4} {
			c, m := made(t, 1, []api.Node{at(3, 5), at(4, 5)}, of(1, 0, 2))
			p := run(t, c, 1, 3, before...)
			m.pods[0] = p
			var want []api.Pod
			if id == 3 && p.Node == 3 {
				if p.Phase == api.Nominated {
					want = append(want, changed(p, api.Pending, api.None, api.None))
				} else {
					want = append(want, gone(p))
				}
				m.pods[0] = want[0]
			}
			left, err := c.DropNode(id)
			if err != nil || !slices.EqualFunc(left, want, same) {
				t.Error(before, id, left, err, "want", want)
			}
			m.nodes = slices.Delete(m.nodes, id-3, id-2)
			holds(t, c, m)
		}
	}
}

// P14.4: a node with an ID that was removed is a new one, without usage and pods.
func TestAddNodeAgain(t *testing.T) {
	c, m := made(t, 1, []api.Node{at(1, 5)}, of(1, 0, 4), of(2, 1, 1), of(3, 2, 5))
	m.pods[0] = run(t, c, 1, 1, phase.Bind)
	m.pods[1] = run(t, c, 2, 1, phase.Claim)
	if left, err := c.DropNode(1); len(left) != 2 || err != nil {
		t.Error(left, err)
	}
	if left, err := c.DropNode(1); len(left) != 0 || !isFault(err, api.Unknown, 0) {
		t.Error(left, err)
	}
	m.pods[0], m.pods[1] = gone(m.pods[0]), changed(m.pods[1], api.Pending, api.None, api.None)
	m.nodes = []api.Node{at(1, 6)}
	if err := c.AddNode(m.nodes[0]); err != nil {
		t.Error(err)
	}
	holds(t, c, m)
	m.pods[2] = run(t, c, 3, 1, phase.Bind)
	holds(t, c, m)
	if left, err := c.DropNode(1); len(left) != 1 || !same(left[0], gone(m.pods[2])) || err != nil {
		t.Error(left, err)
	}
}

// P14.4: a node whose ID is None has the pods that were placed on it, and not those without a node.
func TestNodeNone(t *testing.T) {
	c, m := made(t, 1, []api.Node{at(api.None, 9)}, of(1, 0, 1), of(2, 1, 2), of(3, 2, 3), of(4, 3, 4))
	m.pods[1] = run(t, c, 2, api.None, phase.Bind)
	m.pods[2] = run(t, c, 3, api.None, phase.Claim)
	m.pods[3] = run(t, c, 4, api.None, phase.Free)
	holds(t, c, m)
	left, err := c.DropNode(api.None)
	m.nodes = nil
	m.pods[1], m.pods[2] = gone(m.pods[1]), of(3, 2, 3)
	if err != nil || !slices.EqualFunc(left, m.pods[1:3], same) {
		t.Error(left, err)
	}
	holds(t, c, m)
}

// P14.5: nodes are in the order of their IDs, and pods in that of their Arrivals, in whatever order they were added.
func TestOrders(t *testing.T) {
	ids := []int{4, -2, 9, 0, math.MaxInt, 7, math.MinInt, 3}
	for turn := range ids {
		c, m := New(1), &model{dims: 1}
		for i, id := range slices.Concat(ids[turn:], ids[:turn]) {
			n, p := at(id, int64(i)), of(id, i, int64(i))
			if err := c.AddNode(n); err != nil {
				t.Fatal(err)
			}
			if _, err := c.Submit(p); err != nil {
				t.Fatal(err)
			}
			m.nodes, m.pods = append(m.nodes, n), append(m.pods, p)
			holds(t, c, m)
		}
	}
}

// The example of the chapter.
func TestExample(t *testing.T) {
	c, m := made(t, 1, []api.Node{at(7, 5)}, of(1, 0, 3), of(2, 1, 3))
	p, err := c.Bind(1, 7)
	answers(t, p, err, changed(of(1, 0, 3), api.Bound, 7, api.None), 0, 0)
	m.pods[0] = p
	p, err = c.Bind(2, 7)
	answers(t, p, err, api.Pod{}, api.Overflow, 0)
	holds(t, c, m)
	if p, _ := c.Pod(2); p.Phase != api.Pending {
		t.Error(p)
	}
}

// All errors are faults of their own type, from which the library takes the code.
func TestErrorsAreFaults(t *testing.T) {
	c, _ := made(t, 1, []api.Node{at(1, 5)}, of(1, 0, 9))
	_, drop := c.DropNode(2)
	_, amount := c.Submit(of(2, 0, -1))
	_, duplicate := c.Submit(of(1, 0, 1))
	_, overflow := c.Bind(1, 1)
	_, unknown := c.Claim(1, 2)
	_, bad := c.Change(1, phase.Clear, 0)
	for _, x := range []struct {
		err  error
		code api.Code
	}{
		{c.AddNode(at(1, 5)), api.Duplicate},
		{c.AddNode(at(2, -5)), api.BadAmount},
		{drop, api.Unknown},
		{amount, api.BadAmount},
		{duplicate, api.Duplicate},
		{overflow, api.Overflow},
		{unknown, api.Unknown},
		{bad, api.BadPhase},
	} {
		if got, ok := x.err.(api.Fault); !ok || got.Code != x.code || !errors.Is(x.err, x.code) {
			t.Error(x.err, x.code)
		}
	}
}

// Arguments are copied, and the memory behind them stays as it is.
func TestArgumentsAreCopied(t *testing.T) {
	capacity, request := vector(5, 2, 8, 8), vector(3, 1, 8, 8)
	c, m := New(2), &model{2, []api.Node{at(1, 5, 2)}, []api.Pod{of(1, 0, 3, 1)}}
	c.AddNode(at(1, capacity[:2]...))
	p, _ := c.Submit(of(1, 0, request[:2]...))
	_ = append(p.Request, 9)
	if !slices.Equal(capacity, vector(5, 2, 8, 8)) || !slices.Equal(request, vector(3, 1, 8, 8)) {
		t.Error(capacity, request)
	}
	clear(capacity)
	clear(request)
	holds(t, c, m)
	m.pods[0] = run(t, c, 1, 1, phase.Bind)
	holds(t, c, m)
}

// Results are copies, each one apart from the others.
func TestResultsAreCopies(t *testing.T) {
	c, m := made(t, 1, []api.Node{at(1, 90), at(2, 90)}, of(1, 0, 3), of(2, 1, 4))
	submitted, _ := c.Submit(of(3, 0, 5))
	bound, _ := c.Bind(1, 1)
	claimed, _ := c.Claim(2, 1)
	evicted, _ := c.Change(1, phase.Evict, 7)
	pods := slices.Concat([]api.Pod{submitted, bound, claimed, evicted}, c.Pods(), c.Pods(), c.On(1), c.On(1))
	nodes := slices.Concat(c.Nodes(), c.Nodes())
	for range 2 {
		p, _ := c.Pod(1)
		n, _ := c.Node(1)
		pods, nodes = append(pods, p), append(nodes, n)
	}
	vectors := [][]int64{c.Free(1), c.Free(1), c.Free(2)}
	for _, p := range pods {
		vectors = append(vectors, p.Request)
	}
	for _, n := range nodes {
		vectors = append(vectors, n.Capacity)
	}
	for i, v := range vectors {
		v[0] = int64(-i)
		_ = append(v, 98)
	}
	for i, v := range vectors {
		if !slices.Equal(v, vector(int64(-i))) {
			t.Error(i, v)
		}
	}
	m.pods = append(m.pods, of(3, 2, 5))
	m.pods[0], m.pods[1] = changed(of(1, 0, 3), api.Terminating, 1, 7), changed(of(2, 1, 4), api.Nominated, 1, api.None)
	holds(t, c, m)
	left, _ := c.DropNode(1)
	left[0].Request[0], left[1].Request[0] = 77, 78
	m.nodes, m.pods[0], m.pods[1] = []api.Node{at(2, 90)}, gone(of(1, 0, 3)), of(2, 1, 4)
	holds(t, c, m)
}

// P14.6: the methods of a cluster are those of the chapter, so that no usage changes without its pods.
func TestMethods(t *testing.T) {
	want := []string{"AddNode", "Bind", "Change", "Claim", "Dims", "DropNode", "Free", "Node", "Nodes", "On", "Pod", "Pods", "Submit"}
	var got []string
	for method := range reflect.TypeFor[*Cluster]().Methods() {
		got = append(got, method.Name)
	}
	if !slices.Equal(got, want) {
		t.Error(got)
	}
}

// numbers returns a function that returns numbers from 0 to n - 1, always the same ones.
func numbers() func(n int) int {
	x := uint64(14)
	return func(n int) int {
		x = x*6364136223846793005 + 1442695040888963407
		return int(x >> 33 % uint64(n))
	}
}

// some returns a vector whose elements are less than a limit, which is now and then not valid for the dimension, with the index of what is wrong, or -1.
func some(next func(int) int, dims, limit int) ([]int64, int) {
	v := make([]int64, dims)
	for i := range v {
		v[i] = int64(next(limit))
	}
	switch i := next(dims); next(12) {
	case 0:
		v[i] = -1
		return v, i
	case 1:
		return v[:i], i
	case 2:
		return append(v, 0), dims
	}
	return v, -1
}

// place applies Bind or Claim to a pod and returns it afterwards, with the error 0; or returns the first error with its index.
func (m *model) place(id, event, node int) (api.Pod, api.Code, int) {
	i, j := m.pod(id), m.node(node)
	switch {
	case i < 0:
		return api.Pod{}, api.Unknown, 0
	case j < 0:
		return api.Pod{}, api.Unknown, 1
	case !waits(m.pods[i]):
		return api.Pod{}, api.BadPhase, 0
	case event == phase.Claim:
		m.pods[i] = changed(m.pods[i], api.Nominated, node, api.None)
		return m.pods[i], 0, 0
	}
	for k, x := range m.free(m.nodes[j]) {
		if m.pods[i].Request[k] > x {
			return api.Pod{}, api.Overflow, 0
		}
	}
	m.pods[i] = changed(m.pods[i], api.Bound, node, api.None)
	return m.pods[i], 0, 0
}

// change does what Change does, and returns the pod afterwards with the error 0, or the first error.
func (m *model) change(id, event, deadline int) (api.Pod, api.Code) {
	i := m.pod(id)
	if i < 0 {
		return api.Pod{}, api.Unknown
	}
	p := &m.pods[i]
	switch {
	case event == phase.Clear && p.Phase == api.Nominated:
		*p = changed(*p, api.Pending, api.None, api.None)
	case event == phase.Evict && p.Phase == api.Bound:
		*p = changed(*p, api.Terminating, p.Node, deadline)
	case event == phase.Free && p.Phase != api.Gone:
		*p = gone(*p)
	default:
		return api.Pod{}, api.BadPhase
	}
	return *p, 0
}

// drop removes a node, which must be there, and returns the pods afterwards that had it.
func (m *model) drop(id int) []api.Pod {
	i := m.node(id)
	m.nodes = slices.Delete(m.nodes, i, i+1)
	l := m.on(id)
	for i, p := range l {
		if p.Phase == api.Nominated {
			l[i] = changed(p, api.Pending, api.None, api.None)
		} else {
			l[i] = gone(p)
		}
		m.pods[m.pod(p.ID)] = l[i]
	}
	return l
}

// step makes a call of a cluster and its model, checks that the answers are the same, and counts the error.
func step(t *testing.T, c *Cluster, m *model, next func(int) int, met map[api.Code]int) {
	t.Helper()
	id, node := next(30), next(6)
	switch call := next(20); {
	case call == 0:
		v, index := some(next, m.dims, 30)
		code := api.Code(0)
		if index >= 0 {
			code = api.BadAmount
		} else if m.node(node) >= 0 {
			code = api.Duplicate
		} else {
			m.nodes = append(m.nodes, at(node, v...))
		}
		if err := c.AddNode(at(node, slices.Clone(v)...)); !isFault(err, code, max(index, 0)) {
			t.Fatal("node:", node, v, err, "want", code, index)
		}
		met[code]++
	case call == 1 && next(3) == 0:
		l, err := c.DropNode(node)
		if m.node(node) < 0 {
			if len(l) != 0 || !isFault(err, api.Unknown, 0) {
				t.Fatal("drop:", node, l, err)
			}
		} else if want := m.drop(node); err != nil || !slices.EqualFunc(l, want, same) {
			t.Fatal("drop:", node, l, err, "want", want)
		}
	case call < 5:
		v, index := some(next, m.dims, 12)
		p, code := of(id, len(m.pods), v...), api.Code(0)
		if index >= 0 {
			code = api.BadAmount
		} else if m.pod(id) >= 0 {
			code = api.Duplicate
		} else {
			m.pods = append(m.pods, p)
		}
		got, err := c.Submit(of(id, 9, slices.Clone(v)...))
		answers(t, got, err, p, code, max(index, 0))
		met[code]++
	case call < 13:
		event := phase.Bind
		if call < 8 {
			event = phase.Claim
		}
		want, code, index := m.place(id, event, node)
		p, err := apply(c, id, event, node, 0)
		answers(t, p, err, want, code, index)
		met[code]++
	default:
		event, deadline := next(7), next(100)
		want, code := m.change(id, event, deadline)
		p, err := c.Change(id, event, deadline)
		answers(t, p, err, want, code, 0)
		met[code]++
	}
}

// P14.1 to P14.6: in many runs of calls, the cluster answers as the model does, whose usages are sums and never exceed the capacities.
func TestModel(t *testing.T) {
	next, met := numbers(), map[api.Code]int{}
	full := 0
	for range 150 {
		m := &model{dims: 1 + next(3)}
		c := New(m.dims)
		for node := range 4 {
			v := make([]int64, m.dims)
			for i := range v {
				v[i] = int64(next(30))
			}
			m.nodes = append(m.nodes, at(node, v...))
			c.AddNode(at(node, v...))
		}
		for range 150 {
			step(t, c, m, next, met)
			if holds(t, c, m); t.Failed() {
				t.FailNow()
			}
			for _, n := range m.nodes {
				free := m.free(n)
				if slices.Min(free) < 0 {
					t.Fatal("exceeded:", n, free)
				}
				if slices.Max(n.Capacity) > 0 && slices.Max(free) == 0 {
					full++
				}
			}
		}
	}
	for _, code := range []api.Code{0, api.BadAmount, api.Duplicate, api.Unknown, api.BadPhase, api.Overflow} {
		if met[code] < 100 {
			t.Error(code, "was met", met[code], "times")
		}
	}
	if full < 10 {
		t.Error("a node was full", full, "times")
	}
}

// P14.6: in whatever order pods are bound, evicted and freed, all of a node is free at the end.
func TestAllIsFreeAtTheEnd(t *testing.T) {
	next := numbers()
	for range 100 {
		c, m := made(t, 2, []api.Node{at(1, 40, 60), at(2, 30, 30)})
		for id := range 12 {
			p := of(id, id, int64(next(12)), int64(next(12)))
			c.Submit(p)
			m.pods = append(m.pods, p)
			m.place(id, phase.Bind, 1+id%2)
			c.Bind(id, 1+id%2)
		}
		holds(t, c, m)
		left := make([]int, len(m.pods))
		for i := range left {
			left[i] = i
		}
		for len(left) > 0 {
			i := next(len(left))
			if next(2) == 0 {
				m.change(left[i], phase.Evict, 5)
				c.Change(left[i], phase.Evict, 5)
			}
			m.change(left[i], phase.Free, 0)
			c.Change(left[i], phase.Free, 0)
			left = slices.Delete(left, i, i+1)
			if holds(t, c, m); t.Failed() {
				t.FailNow()
			}
		}
		if !slices.Equal(c.Free(1), vector(40, 60)) || !slices.Equal(c.Free(2), vector(30, 30)) {
			t.Fatal(c.Free(1), c.Free(2))
		}
	}
}

// On a nil Cluster, the methods with an error return the api.Fault with the code Unknown and the At 0, and the other methods zero values.
func TestNil(t *testing.T) {
	var c *Cluster
	for _, id := range []int{0, 1, -1, math.MaxInt} {
		lacksNode(t, c, id)
		lacksPod(t, c, id)
		for _, v := range [][]int64{nil, {}, {1}, {-1}, {1, -1}} {
			if err := c.AddNode(at(id, v...)); !isFault(err, api.Unknown, 0) {
				t.Error(id, v, err)
			}
			p, err := c.Submit(of(id, 0, v...))
			answers(t, p, err, api.Pod{}, api.Unknown, 0)
		}
	}
	if len(c.Nodes()) != 0 || len(c.Pods()) != 0 || c.Dims() != 0 {
		t.Error(c.Nodes(), c.Pods(), c.Dims())
	}
}
