package timer

import (
	"math"
	"slices"
	"testing"
)

// of returns a list with timers, which must have different IDs.
func of(t *testing.T, timers ...Timer) *List {
	t.Helper()
	l := New()
	for _, x := range timers {
		if !l.Set(x) {
			t.Fatal("not set:", x)
		}
	}
	return l
}

// holds checks that a list has exactly these timers in order, by every method that does not change it.
func holds(t *testing.T, l *List, want ...Timer) {
	t.Helper()
	for range 2 {
		if got := l.All(); !slices.Equal(got, want) || l.Len() != len(want) {
			t.Error("got", got, "with the length", l.Len(), "want", want)
		}
		first, ok := l.Next()
		if ok != (len(want) > 0) || ok && first != want[0] || !ok && first != (Timer{}) {
			t.Error("next:", first, ok, "want", want)
		}
	}
}

// without returns the timers other than that of an ID.
func without(l []Timer, id int) []Timer {
	return slices.DeleteFunc(slices.Clone(l), func(x Timer) bool { return x.ID == id })
}

// orders are lists of timers in order. The fields of a Timer are its ID, its time and its arrival.
func orders() [][]Timer {
	return [][]Timer{
		nil,
		{{4, 1, 0}},
		{{}},
		// The lesser time comes first, whatever the arrivals and IDs are.
		{{2, 3, 1}, {1, 5, 0}},
		{{1, 3, 0}, {2, 5, 1}},
		{{3, -5, 2}, {2, 0, 1}, {1, 4, 0}},
		{{3, math.MinInt, 9}, {2, 0, 5}, {1, math.MaxInt, 0}},
		// Then the lesser arrival, whatever the IDs are.
		{{2, 5, 1}, {3, 5, 2}, {1, 5, 3}},
		{{2, 5, math.MinInt}, {1, 5, math.MaxInt}},
		// Then the lesser ID, which may be any number.
		{{-1, 5, 1}, {0, 5, 1}, {6, 5, 1}, {7, 5, 1}},
		{{math.MinInt, 5, 1}, {math.MaxInt, 5, 1}},
		// All of them.
		{{5, 2, 8}, {4, 3, 0}, {9, 3, 0}, {2, 3, 1}, {1, 7, 1}, {3, 7, 1}, {0, 7, 6}},
	}
}

// turned returns a list as it is, backwards, and from each of its timers on.
func turned(l []Timer) [][]Timer {
	back := slices.Clone(l)
	slices.Reverse(back)
	all := [][]Timer{l, back}
	for i := range l {
		all = append(all, slices.Concat(l[i:], l[:i]), slices.Concat(back[i:], back[:i]))
	}
	return all
}

// times returns the times of a list, those just before and after them, and a few others.
func times(l []Timer) []int {
	all := []int{math.MinInt, -1, 0, 1, math.MaxInt}
	for _, x := range l {
		if x.At > math.MinInt {
			all = append(all, x.At-1)
		}
		all = append(all, x.At)
		if x.At < math.MaxInt {
			all = append(all, x.At+1)
		}
	}
	return all
}

// P9.1
func TestNewIsEmpty(t *testing.T) {
	l := New()
	if l == nil {
		t.Fatal("no list")
	}
	holds(t, l)
	other := New()
	l.Set(Timer{1, 1, 0})
	holds(t, other)
	if !other.Set(Timer{1, 2, 0}) {
		t.Error("not set")
	}
	holds(t, l, Timer{1, 1, 0})
}

// P9.1: what is added, and what is not.
func TestSet(t *testing.T) {
	l := New()
	for i, x := range []struct {
		t    Timer
		ok   bool
		want []Timer
	}{
		{Timer{3, 5, 0}, true, []Timer{{3, 5, 0}}},
		{Timer{1, 4, 1}, true, []Timer{{1, 4, 1}, {3, 5, 0}}},
		// An ID that is there, with the same fields or other ones.
		{Timer{3, 5, 0}, false, []Timer{{1, 4, 1}, {3, 5, 0}}},
		{Timer{3, 9, 0}, false, []Timer{{1, 4, 1}, {3, 5, 0}}},
		{Timer{3, 1, 0}, false, []Timer{{1, 4, 1}, {3, 5, 0}}},
		{Timer{1, 4, 0}, false, []Timer{{1, 4, 1}, {3, 5, 0}}},
		{Timer{1, 4, 7}, false, []Timer{{1, 4, 1}, {3, 5, 0}}},
		// Another ID with the same fields, or the least ones.
		{Timer{2, 5, 0}, true, []Timer{{1, 4, 1}, {2, 5, 0}, {3, 5, 0}}},
		{Timer{}, true, []Timer{{}, {1, 4, 1}, {2, 5, 0}, {3, 5, 0}}},
		{Timer{}, false, []Timer{{}, {1, 4, 1}, {2, 5, 0}, {3, 5, 0}}},
		{Timer{-8, -6, -3}, true, []Timer{{-8, -6, -3}, {}, {1, 4, 1}, {2, 5, 0}, {3, 5, 0}}},
		{Timer{-8, 6, 3}, false, []Timer{{-8, -6, -3}, {}, {1, 4, 1}, {2, 5, 0}, {3, 5, 0}}},
	} {
		if ok := l.Set(x.t); ok != x.ok {
			t.Error(i, ok, x.ok)
		}
		holds(t, l, x.want...)
	}
}

// P9.1: a timer that is not added does not change the time of the one that is there.
func TestSetKeepsFirst(t *testing.T) {
	for _, at := range []int{math.MinInt, 3, 4, 5, 9, math.MaxInt} {
		l := of(t, Timer{1, 5, 0}, Timer{2, 7, 1})
		if l.Set(Timer{1, at, 0}) {
			t.Error(at)
		}
		if got := l.Due(4); len(got) != 0 {
			t.Error(at, got)
		}
		if got := l.Due(5); !slices.Equal(got, []Timer{{1, 5, 0}}) {
			t.Error(at, got)
		}
		holds(t, l, Timer{2, 7, 1})
	}
}

// P9.1 and P9.2: an ID that has left may be added again, with other fields.
func TestSetAgain(t *testing.T) {
	l := of(t, Timer{1, 5, 0}, Timer{2, 4, 1})
	l.Cancel(1)
	if !l.Set(Timer{1, 3, 7}) || l.Set(Timer{1, 5, 0}) {
		t.Error("after Cancel")
	}
	holds(t, l, Timer{1, 3, 7}, Timer{2, 4, 1})
	l.Due(3)
	if !l.Set(Timer{1, 9, 0}) || l.Set(Timer{1, 3, 7}) || l.Set(Timer{2, 9, 0}) {
		t.Error("after Due")
	}
	holds(t, l, Timer{2, 4, 1}, Timer{1, 9, 0})
	l.Due(9)
	if !l.Set(Timer{2, 1, 1}) || !l.Set(Timer{1, 1, 1}) {
		t.Error("after Due of all")
	}
	holds(t, l, Timer{1, 1, 1}, Timer{2, 1, 1})
}

// P9.2: each timer is cancelled in each list, and the others stay.
func TestCancel(t *testing.T) {
	for i, want := range orders() {
		for k, timers := range turned(want) {
			for _, x := range timers {
				l := of(t, timers...)
				if got, ok := l.Cancel(x.ID); !ok || got != x {
					t.Error(i, k, got, ok, x)
				}
				rest := without(want, x.ID)
				holds(t, l, rest...)
				if got, ok := l.Cancel(x.ID); ok || got != (Timer{}) {
					t.Error(i, k, "again:", got, ok)
				}
				holds(t, l, rest...)
				if got := l.Due(math.MaxInt); !slices.Equal(got, rest) {
					t.Error(i, k, got, rest)
				}
			}
		}
	}
}

// P9.2: all timers are cancelled, one after the other.
func TestCancelAll(t *testing.T) {
	for i, want := range orders() {
		for k, timers := range turned(want) {
			l, rest := of(t, want...), want
			for _, x := range timers {
				if got, ok := l.Cancel(x.ID); !ok || got != x {
					t.Error(i, k, got, ok, x)
				}
				rest = without(rest, x.ID)
				holds(t, l, rest...)
			}
		}
	}
}

// P9.2: an ID that no timer has.
func TestCancelNothing(t *testing.T) {
	for _, want := range [][]Timer{nil, {{1, 5, 9}, {3, 7, 8}}} {
		l := of(t, want...)
		for _, id := range []int{0, 2, 4, 5, 7, 8, 9, -1, -3, math.MinInt, math.MaxInt} {
			if got, ok := l.Cancel(id); ok || got != (Timer{}) {
				t.Error(id, got, ok)
			}
			holds(t, l, want...)
		}
	}
}

// P9.2: the timers that stay are in order, whichever one is cancelled.
func TestCancelEach(t *testing.T) {
	// A heap keeps these in the order in which they are set: the last one must go up in the place of some that are cancelled.
	var uneven []Timer
	for i, at := range []int{0, 50, 10, 60, 70, 20, 25, 80, 81, 82, 83, 22, 23, 27, 28} {
		uneven = append(uneven, Timer{i, at, i})
	}
	for _, timers := range [][]Timer{uneven, scattered(64)} {
		for _, x := range timers {
			l := of(t, timers...)
			if got, ok := l.Cancel(x.ID); !ok || got != x {
				t.Fatal(x, got, ok)
			}
			rest := without(sorted(timers), x.ID)
			holds(t, l, rest...)
			if got := l.Due(math.MaxInt); !slices.Equal(got, rest) {
				t.Fatal(x, got, rest)
			}
		}
	}
}

// P9.2 and P9.4: at each time, Due returns the timers that are due, and the others stay.
func TestDue(t *testing.T) {
	for i, want := range orders() {
		for k, timers := range turned(want) {
			for _, now := range times(want) {
				l, n := of(t, timers...), 0
				for n < len(want) && want[n].At <= now {
					n++
				}
				if got := l.Due(now); !slices.Equal(got, want[:n]) {
					t.Error(i, k, now, got, want[:n])
				}
				holds(t, l, want[n:]...)
				if got := l.Due(now); len(got) != 0 {
					t.Error(i, k, now, "again:", got)
				}
				for _, x := range want[:n] {
					if got, ok := l.Cancel(x.ID); ok || got != (Timer{}) {
						t.Error(i, k, now, got, ok)
					}
				}
				holds(t, l, want[n:]...)
			}
		}
	}
}

// The example of the chapter.
func TestExample(t *testing.T) {
	l := of(t, Timer{1, 5, 0}, Timer{2, 3, 1})
	if got := l.Due(4); !slices.Equal(got, []Timer{{2, 3, 1}}) {
		t.Error(got)
	}
	holds(t, l, Timer{1, 5, 0})
}

// P9.2: what is due depends on the time of this call only, not on earlier ones.
func TestDueKeepsNoTime(t *testing.T) {
	l := of(t, Timer{1, 8, 0}, Timer{2, 20, 1})
	for i, x := range []struct {
		set  Timer
		now  int
		want []Timer
	}{
		{Timer{3, 30, 2}, 10, []Timer{{1, 8, 0}}},
		{Timer{4, 9, 3}, 8, nil},
		{Timer{5, 7, 4}, 6, nil},
		{Timer{1, 7, 0}, 7, []Timer{{1, 7, 0}, {5, 7, 4}}},
		{Timer{1, -7, 0}, -8, nil},
		{Timer{6, 0, 5}, 20, []Timer{{1, -7, 0}, {6, 0, 5}, {4, 9, 3}, {2, 20, 1}}},
		{Timer{6, 20, 5}, 19, nil},
	} {
		if !l.Set(x.set) {
			t.Error(i, "not set")
		}
		if got := l.Due(x.now); !slices.Equal(got, x.want) {
			t.Error(i, got, x.want)
		}
	}
	holds(t, l, Timer{6, 20, 5}, Timer{3, 30, 2})
}

// P9.3: after each timer that is set, Next, Len and All tell those that are there, in whatever order they were set.
func TestNextLenAll(t *testing.T) {
	for _, want := range orders() {
		for _, timers := range turned(want) {
			l := New()
			for n, x := range timers {
				holds(t, l, sorted(timers[:n])...)
				l.Set(x)
			}
			holds(t, l, want...)
		}
	}
}

// P9.3: Next follows the timers that are set and that leave.
func TestNextFollows(t *testing.T) {
	l := of(t, Timer{1, 5, 4})
	next := func(want Timer) {
		t.Helper()
		if got, ok := l.Next(); !ok || got != want {
			t.Error(got, ok, want)
		}
	}
	next(Timer{1, 5, 4})
	l.Set(Timer{2, 6, 0})
	next(Timer{1, 5, 4})
	l.Set(Timer{3, 5, 2})
	next(Timer{3, 5, 2})
	l.Set(Timer{0, 5, 2})
	next(Timer{0, 5, 2})
	l.Set(Timer{4, 2, 9})
	next(Timer{4, 2, 9})
	l.Cancel(0)
	next(Timer{4, 2, 9})
	l.Due(4)
	next(Timer{3, 5, 2})
	l.Cancel(3)
	next(Timer{1, 5, 4})
	l.Due(5)
	next(Timer{2, 6, 0})
	l.Cancel(2)
	holds(t, l)
}

// sorted returns the timers in order, compared field by field.
func sorted(l []Timer) []Timer {
	all := slices.Clone(l)
	slices.SortFunc(all, func(a, b Timer) int {
		return slices.Compare([]int{a.At, a.Arrival, a.ID}, []int{b.At, b.Arrival, b.ID})
	})
	return all
}

// scattered returns n timers with the IDs from 0 on, in an order that follows no key.
func scattered(n int) []Timer {
	next := numbers()
	l := make([]Timer, n)
	for i := range l {
		l[i] = Timer{i, next(8) - 4, next(16)}
	}
	return l
}

// numbers returns a function whose results are from 0 to less than the argument, and the same in each test.
func numbers() func(n int) int {
	x := uint64(7)
	return func(n int) int {
		x = x*6364136223846793005 + 1442695040888963407
		return int(x >> 33 % uint64(n))
	}
}

// P9.2 and P9.3: as many timers as there may be pods.
func TestMany(t *testing.T) {
	timers := scattered(1 << 16)
	want := sorted(timers)
	l := of(t, timers...)
	holds(t, l, want...)
	for _, now := range []int{-4, -2, 0, 3} {
		n := 0
		for n < len(want) && want[n].At <= now {
			n++
		}
		if got := l.Due(now); !slices.Equal(got, want[:n]) {
			t.Fatal(now, len(got), n)
		}
		want = want[n:]
		holds(t, l, want...)
	}
	if len(want) != 0 {
		t.Error(len(want))
	}
}

// P9.1 to P9.3: in a long run of calls, the list answers as a sorted slice does.
func TestModel(t *testing.T) {
	l, next := New(), numbers()
	var model []Timer
	for i := range 20000 {
		id := next(60)
		at := slices.IndexFunc(model, func(x Timer) bool { return x.ID == id })
		switch kind := next(20); {
		case kind < 10:
			x := Timer{id, next(30), next(4)}
			if got := l.Set(x); got != (at < 0) {
				t.Fatal(i, "set:", x, got, model)
			} else if got {
				model = sorted(append(model, x))
			}
		case kind < 17:
			got, ok := l.Cancel(id)
			if ok != (at >= 0) || ok && got != model[at] || !ok && got != (Timer{}) {
				t.Fatal(i, "cancel:", id, got, ok, model)
			}
			model = without(model, id)
		default:
			now, n := next(30), 0
			for n < len(model) && model[n].At <= now {
				n++
			}
			if got := l.Due(now); !slices.Equal(got, model[:n]) {
				t.Fatal(i, "due:", now, got, model)
			}
			model = slices.Clone(model[n:])
		}
		holds(t, l, model...)
		if t.Failed() {
			t.Fatal(i)
		}
	}
}

// P9.4: each timer that was set is returned once, by Cancel or by Due, and by Due not before its time.
func TestReturnedOnce(t *testing.T) {
	l, next := New(), numbers()
	// The arrivals are different, so that they tell timers with the same ID.
	set, returned := map[int]Timer{}, map[int]bool{}
	take := func(x Timer) {
		t.Helper()
		if set[x.Arrival] != x || returned[x.Arrival] {
			t.Fatal("not set, or returned before:", x)
		}
		returned[x.Arrival] = true
	}
	due := func(now int) {
		t.Helper()
		for _, x := range l.Due(now) {
			if x.At > now {
				t.Fatal("before its time:", x, now)
			}
			take(x)
		}
		if x, ok := l.Next(); ok && x.At <= now {
			t.Fatal("still there:", x, now)
		}
	}
	for now := range 3000 {
		for range next(4) {
			if x := (Timer{next(200), now + next(60), len(set)}); l.Set(x) {
				set[x.Arrival] = x
			}
		}
		if x, ok := l.Cancel(next(200)); ok {
			take(x)
		}
		due(now)
		if l.Len() != len(set)-len(returned) {
			t.Fatal(now, l.Len(), len(set), len(returned))
		}
	}
	due(math.MaxInt)
	if len(set) < 1000 || len(returned) != len(set) || l.Len() != 0 {
		t.Error(len(set), len(returned), l.Len())
	}
}

// P9.2 and P9.3: what All and Due return shares no memory with the list.
func TestResultsAreApart(t *testing.T) {
	want := []Timer{{1, 3, 0}, {2, 4, 1}, {3, 5, 2}, {4, 6, 3}}
	l := of(t, want...)
	all := l.All()
	for i := range all {
		all[i] = Timer{90 + i, 9 - i, 9}
	}
	holds(t, l, want...)
	due := l.Due(4)
	behind := due[:cap(due)]
	for i := range behind {
		behind[i] = Timer{70 + i, 1, 7}
	}
	holds(t, l, want[2:]...)
	rest := l.Due(6)
	for i := range 4 {
		l.Set(Timer{50 + i, 9 - i, 5})
	}
	if !slices.Equal(rest, want[2:]) || due[0] != (Timer{70, 1, 7}) || all[0] != (Timer{90, 9, 9}) {
		t.Error(rest, due, all)
	}
}

// All methods return zero values for nil.
func TestNil(t *testing.T) {
	var l *List
	for _, x := range []Timer{{}, {1, 5, 0}} {
		if l.Set(x) {
			t.Error(x)
		}
		if got, ok := l.Cancel(x.ID); ok || got != (Timer{}) {
			t.Error(got, ok)
		}
		for _, now := range times(nil) {
			if got := l.Due(now); len(got) != 0 {
				t.Error(now, got)
			}
		}
		holds(t, l)
	}
}
