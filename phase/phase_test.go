package phase

import (
	"math"
	"slices"
	"strings"
	"testing"

	"hammock/api"
)

const (
	top = math.MaxInt
	low = math.MinInt
)

// phases are all phases, and events all events.
var (
	phases = []int{api.Pending, api.Nominated, api.Bound, api.Terminating, api.Gone}
	events = []int{Bind, Claim, Clear, Evict, Free}
)

// outside are numbers that are neither phases nor events.
var outside = []int{low, math.MinInt32, -256, -5, -2, -1, 0, 6, 7, 8, 255, 256, 257, 1<<32 + 1, 1<<32 + 3, top}

// after are the phases after the events from Bind to Free, for the phases from Pending to Gone; 0 where the event does not apply.
var after = [5][5]int{
	{api.Bound, api.Nominated, 0, 0, api.Gone},
	{api.Bound, api.Nominated, api.Pending, 0, api.Gone},
	{0, 0, 0, api.Terminating, api.Gone},
	{0, 0, 0, 0, api.Gone},
	{0, 0, 0, 0, 0},
}

// walks calls f with each list of up to a number of events.
func walks(most int, f func(l []int)) {
	var walk func(l []int)
	walk = func(l []int) {
		f(l)
		if len(l) == most {
			return
		}
		for _, event := range events {
			walk(append(slices.Clone(l), event))
		}
	}
	walk(nil)
}

// P5.1
func TestNumbers(t *testing.T) {
	if got := []int{Bind, Claim, Clear, Evict, Free}; !slices.Equal(got, []int{1, 2, 3, 4, 5}) {
		t.Error("events:", got)
	}
}

// P5.1
func TestNext(t *testing.T) {
	for i, phase := range phases {
		for k, event := range events {
			want := after[i][k]
			if got, ok := Next(phase, event); got != want || ok != (want != 0) {
				t.Errorf("Next(%d, %d) is %d, %v, not %d", phase, event, got, ok, want)
			}
		}
	}
}

// P5.1
func TestNextOutside(t *testing.T) {
	check := func(phase, event int) {
		if got, ok := Next(phase, event); got != 0 || ok {
			t.Errorf("Next(%d, %d) is %d, %v", phase, event, got, ok)
		}
	}
	for _, n := range outside {
		for _, phase := range phases {
			check(phase, n)
		}
		for _, event := range events {
			check(n, event)
		}
		for _, m := range outside {
			check(n, m)
		}
	}
}

// P5.2
func TestRun(t *testing.T) {
	for _, x := range []struct {
		phase       int
		events      []int
		want, count int
	}{
		{api.Pending, []int{Claim, Bind, Evict}, api.Terminating, 3},
		{api.Pending, []int{Claim, Clear, Claim, Claim, Bind, Evict, Free}, api.Gone, 7},
		{api.Pending, []int{Bind, Free}, api.Gone, 2},
		{api.Bound, []int{Evict, Free}, api.Gone, 2},
		{api.Nominated, []int{Clear}, api.Pending, 1},
		// The events after the first one that does not apply do not count, also if they would apply.
		{api.Pending, []int{Clear, Bind}, api.Pending, 0},
		{api.Pending, []int{Claim, Evict, Bind}, api.Nominated, 1},
		{api.Pending, []int{Bind, Bind, Evict, Free}, api.Bound, 1},
		{api.Bound, []int{Evict, Evict, Free}, api.Terminating, 1},
		{api.Terminating, []int{Free, Free}, api.Gone, 1},
		{api.Gone, []int{Free}, api.Gone, 0},
		{api.Gone, []int{Bind, Claim, Clear, Evict, Free}, api.Gone, 0},
		{api.Pending, []int{0, Bind}, api.Pending, 0},
		{api.Pending, []int{Claim, 6, Bind}, api.Nominated, 1},
		{api.Pending, []int{Bind, -1, Evict}, api.Bound, 1},
		{api.Nominated, []int{Bind, low}, api.Bound, 1},
		{api.Nominated, []int{Bind, top}, api.Bound, 1},
	} {
		if got, count := Run(x.phase, x.events...); got != x.want || count != x.count {
			t.Errorf("Run(%d, %v) is %d, %d, not %d, %d", x.phase, x.events, got, count, x.want, x.count)
		}
	}
}

// P5.2: without an event that applies, the phase stays as it is, also one that does not exist.
func TestRunStays(t *testing.T) {
	for _, phase := range slices.Concat(phases, outside) {
		if got, count := Run(phase); got != phase || count != 0 {
			t.Errorf("Run(%d) is %d, %d", phase, got, count)
		}
		if got, count := Run(phase, []int{}...); got != phase || count != 0 {
			t.Errorf("Run(%d, nothing) is %d, %d", phase, got, count)
		}
		for _, event := range outside {
			if got, count := Run(phase, event, Free); got != phase || count != 0 {
				t.Errorf("Run(%d, %d) is %d, %d", phase, event, got, count)
			}
		}
	}
	for _, phase := range outside {
		for _, event := range events {
			if got, count := Run(phase, event); got != phase || count != 0 {
				t.Errorf("Run(%d, %d) is %d, %d", phase, event, got, count)
			}
		}
	}
}

// P5.2: each event is applied to the phase after those before it.
func TestRunSteps(t *testing.T) {
	walks(5, func(l []int) {
		for _, start := range phases {
			want, steps := start, 0
			for _, event := range l {
				next := after[want-1][event-1]
				if next == 0 {
					break
				}
				want, steps = next, steps+1
			}
			if got, count := Run(start, l...); got != want || count != steps {
				t.Fatalf("Run(%d, %v) is %d, %d, not %d, %d", start, l, got, count, want, steps)
			}
		}
	})
}

// P5.2
func TestRunLong(t *testing.T) {
	const times = 100000
	l := slices.Repeat([]int{Claim, Claim, Clear}, times)
	if got, count := Run(api.Pending, l...); got != api.Pending || count != len(l) {
		t.Error(got, count)
	}
	l = append(l, Bind, Claim)
	if got, count := Run(api.Pending, l...); got != api.Bound || count != len(l)-1 {
		t.Error(got, count)
	}
}

// P5.2: the events are not modified, nor is what lies behind them.
func TestRunKeepsArgument(t *testing.T) {
	all := []int{Claim, Bind, Evict, Free}
	Run(api.Pending, all[:2]...)
	if !slices.Equal(all, []int{Claim, Bind, Evict, Free}) {
		t.Error(all)
	}
}

// P5.3
func TestTraits(t *testing.T) {
	type traits struct{ waits, holds, placed bool }
	want := map[int]traits{
		api.Pending:     {waits: true},
		api.Nominated:   {waits: true, placed: true},
		api.Bound:       {holds: true, placed: true},
		api.Terminating: {holds: true, placed: true},
	}
	for _, phase := range slices.Concat(phases, outside) {
		if got := (traits{Waits(phase), Holds(phase), Placed(phase)}); got != want[phase] {
			t.Errorf("phase %d: %+v, not %+v", phase, got, want[phase])
		}
	}
}

// P5.4
func TestName(t *testing.T) {
	want := map[int]string{api.Pending: "pending", api.Nominated: "nominated", api.Bound: "bound", api.Terminating: "terminating", api.Gone: "gone"}
	for _, phase := range slices.Concat(phases, outside) {
		if got := Name(phase); got != want[phase] {
			t.Errorf("Name(%d) is %q, not %q", phase, got, want[phase])
		}
	}
}

// P5.4
func TestParse(t *testing.T) {
	for i, name := range []string{"pending", "nominated", "bound", "terminating", "gone"} {
		if got, ok := Parse(name); got != phases[i] || !ok {
			t.Errorf("Parse(%q) is %d, %v, not %d", name, got, ok, phases[i])
		}
		wrong := []string{" " + name, name + " ", name + "\n", name + "\x00", name[1:], name[:len(name)-1], strings.ToUpper(name), strings.ToUpper(name[:1]) + name[1:], name + name, name + "s"}
		for _, other := range wrong {
			if got, ok := Parse(other); got != 0 || ok {
				t.Errorf("Parse(%q) is %d, %v", other, got, ok)
			}
		}
	}
	for _, name := range []string{"", " ", "\x00", "0", "1", "5", "free", "bind", "claim", "clear", "evict", "waits", "none", "\xff", strings.Repeat("bound", 1000)} {
		if got, ok := Parse(name); got != 0 || ok {
			t.Errorf("Parse(%q) is %d, %v", name, got, ok)
		}
	}
}

// P5.4
func TestParseInvertsName(t *testing.T) {
	for _, phase := range phases {
		if got, ok := Parse(Name(phase)); got != phase || !ok {
			t.Errorf("phase %d: %q, %d, %v", phase, Name(phase), got, ok)
		}
	}
}

// P5.5
func TestGoneStays(t *testing.T) {
	for _, event := range slices.Concat(events, outside) {
		if got, ok := Next(api.Gone, event); got != 0 || ok {
			t.Errorf("event %d: %d, %v", event, got, ok)
		}
	}
}

// P5.5: whatever happens to a pod, it is bound at most once, and frees its resources at most once.
func TestBoundAndFreedOnce(t *testing.T) {
	walks(6, func(l []int) {
		phase, bound, freed := api.Pending, 0, 0
		for _, event := range l {
			next, ok := Next(phase, event)
			if !ok {
				continue
			}
			if !Holds(phase) && Holds(next) {
				bound++
			}
			if Holds(phase) && !Holds(next) {
				freed++
			}
			if !Holds(phase) && Holds(next) != (next == api.Bound) || Holds(phase) && !Holds(next) && next != api.Gone {
				t.Fatalf("%v: from %d to %d", l, phase, next)
			}
			phase = next
		}
		if bound > 1 || freed > bound {
			t.Fatalf("%v: bound %d times, freed %d times", l, bound, freed)
		}
	})
}
