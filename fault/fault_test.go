package fault

import (
	"errors"
	"math"
	"strings"
	"testing"

	"hammock/api"
)

// plain is an error without a code, which cannot be compared.
type plain []string

func (p plain) Error() string { return strings.Join(p, " ") }

// outer is an error of another package that wraps an error, or nil.
type outer struct{ err error }

func (o outer) Error() string { return "outer" }
func (o outer) Unwrap() error { return o.err }

// coded is not an api.Code, but has one.
type coded struct{ api.Code }

// broken is an error whose Unwrap panics.
type broken struct{}

func (broken) Error() string { return "broken" }
func (broken) Unwrap() error { panic("broken") }

// odd is an error that the library finds by methods of its own.
type odd struct{ name string }

func (o odd) Error() string        { return o.name }
func (o odd) Is(target error) bool { return target == api.Syntax }
func (o odd) As(target any) bool {
	if s, ok := target.(*coded); ok {
		s.Code = api.Overflow
		return true
	}
	return false
}

// numbers are codes and kinds, those outside of the tables among them.
var numbers = []int{math.MinInt, math.MinInt32, -256, -11, -2, -1, 0, 1, 2, 3, 4, 5, 6, 7, 8, 9, 10, 11, 12, 255, 256, 257, 1 << 32, 1<<32 + 1, math.MaxInt - 1, math.MaxInt}

// levels returns an error in which In has wrapped err with each of the kinds, the last one first.
func levels(err error, kinds ...int) error {
	for i := range kinds {
		err = In(kinds[len(kinds)-1-i], err)
	}
	return err
}

// P2.1
func TestNew(t *testing.T) {
	for _, c := range numbers {
		for _, at := range []int{math.MinInt, -1, 0, 1, 7, math.MaxInt} {
			want := api.Fault{Code: api.Code(c), At: at}
			got, ok := New(api.Code(c), at).(api.Fault)
			if !ok || got != want {
				t.Errorf("New(%d, %d) is %v", c, at, got)
			}
		}
	}
	if got := New(api.Full, 7).Error(); got != "error 7" {
		t.Error(got)
	}
}

// P2.2
func TestInText(t *testing.T) {
	f := New(api.Full, 7)
	for _, x := range []struct {
		err  error
		want string
	}{
		{In(1, f), "class: error 7"},
		{In(2, f), "node: error 7"},
		{In(3, f), "drop: error 7"},
		{In(4, f), "pod: error 7"},
		{In(5, f), "delete: error 7"},
		{In(6, f), "tick: error 7"},
		{In(7, f), "cycle: error 7"},
		{In(0, f), "operation: error 7"},
		{In(8, f), "operation: error 7"},
		{In(-1, f), "operation: error 7"},
		{In(math.MinInt, f), "operation: error 7"},
		{In(math.MaxInt, f), "operation: error 7"},
		{In(4, api.Syntax), "pod: error 9"},
		{In(4, New(0, 0)), "pod: error 0"},
		{In(4, plain{"some", "text"}), "pod: some text"},
		{In(4, plain(nil)), "pod: "},
		{In(4, outer{f}), "pod: outer"},
		{In(4, outer{}), "pod: outer"},
		{In(4, In(6, f)), "pod: tick: error 7"},
		{In(4, outer{In(6, f)}), "pod: outer"},
		{levels(plain{"x"}, 1, 9, 2, 2), "class: operation: node: node: x"},
	} {
		if got := x.err.Error(); got != x.want {
			t.Errorf("%q is not %q", got, x.want)
		}
	}
}

// P2.2
func TestInUnwrap(t *testing.T) {
	for _, kind := range numbers {
		if err := In(kind, nil); err != nil {
			t.Errorf("In(%d, nil) is %v", kind, err)
		}
		for _, err := range []error{New(api.Full, 7), api.Full, &outer{}, &api.Fault{}, In(4, api.Full)} {
			if got := errors.Unwrap(In(kind, err)); got != err {
				t.Errorf("In(%d, %v) unwraps to %v", kind, err, got)
			}
		}
	}
	if got, ok := errors.Unwrap(In(4, plain{"x"})).(plain); !ok || len(got) != 1 || got[0] != "x" {
		t.Error(got, ok)
	}
}

// P2.2: the error is kept as it is, even if its methods panic.
func TestInDoesNotCallTheError(t *testing.T) {
	var none *api.Fault
	if got := errors.Unwrap(In(4, none)); got != error(none) {
		t.Error(got)
	}
}

// P2.2
func TestInManyLevels(t *testing.T) {
	const many = 1 << 16
	err := New(api.Duplicate, 3)
	for range many {
		err = In(api.OpNode, err)
	}
	if got, want := err.Error(), strings.Repeat("node: ", many)+"error 6"; got != want {
		t.Errorf("a text of %d bytes, not of %d", len(got), len(want))
	}
	c, ok := Code(err)
	at, okAt := At(err)
	place, okPlace := Place(err)
	if c != api.Duplicate || at != 3 || place != api.OpNode || !ok || !okAt || !okPlace || !Harmless(err) {
		t.Error(c, at, place, ok, okAt, okPlace)
	}
}

// P2.3
func TestFind(t *testing.T) {
	type found struct {
		code     api.Code
		hasCode  bool
		at       int
		hasAt    bool
		place    int
		hasPlace bool
		harmless bool
	}
	var none *api.Fault
	code := api.Full
	for i, x := range []struct {
		err  error
		want found
	}{
		{nil, found{}},
		{plain{"x"}, found{}},
		{errors.New("error 7"), found{}},
		{outer{}, found{}},
		{outer{outer{plain{"x"}}}, found{}},
		{api.Full, found{code: 7, hasCode: true, harmless: true}},
		{api.Syntax, found{code: 9, hasCode: true}},
		{api.Code(0), found{hasCode: true}},
		{api.Code(-5), found{code: -5, hasCode: true}},
		{api.Code(1 << 40), found{code: 1 << 40, hasCode: true}},
		{New(api.Full, 7), found{code: 7, hasCode: true, at: 7, hasAt: true, harmless: true}},
		{New(api.BadID, 0), found{code: 2, hasCode: true, hasAt: true}},
		{New(0, -3), found{hasCode: true, at: -3, hasAt: true}},
		{New(99, math.MaxInt), found{code: 99, hasCode: true, at: math.MaxInt, hasAt: true}},
		{In(4, New(api.Full, 7)), found{7, true, 7, true, 4, true, true}},
		{In(0, New(api.BadAmount, 1)), found{3, true, 1, true, 0, true, false}},
		{In(-7, plain{"x"}), found{place: -7, hasPlace: true}},
		{In(3, api.Unknown), found{code: 5, hasCode: true, place: 3, hasPlace: true, harmless: true}},
		{levels(New(api.Unknown, 2), 7, 6, 5), found{5, true, 2, true, 7, true, true}},
		{outer{In(2, outer{New(api.Duplicate, 8)})}, found{6, true, 8, true, 2, true, true}},
		{outer{In(2, In(1, plain{"x"}))}, found{place: 2, hasPlace: true}},
		{outer{outer{api.Overflow}}, found{code: 10, hasCode: true}},
		// Neither a pointer to a Fault or a Code, nor a struct that has one is one itself.
		{&api.Fault{Code: api.Full, At: 7}, found{code: 7, hasCode: true, harmless: true}},
		{&code, found{}},
		{coded{api.Full}, found{}},
		{In(1, coded{api.Full}), found{place: 1, hasPlace: true}},
		{outer{coded{api.Full}}, found{}},
		// An Unwrap that panics returns no error.
		{none, found{}},
		{broken{}, found{}},
		{In(5, none), found{place: 5, hasPlace: true}},
		{outer{In(5, outer{broken{}})}, found{place: 5, hasPlace: true}},
	} {
		var got found
		got.code, got.hasCode = Code(x.err)
		got.at, got.hasAt = At(x.err)
		got.place, got.hasPlace = Place(x.err)
		got.harmless = Harmless(x.err)
		if got != x.want {
			t.Errorf("%d: %+v, not %+v", i, got, x.want)
		}
	}
}

// P2.3
func TestHarmless(t *testing.T) {
	for _, n := range numbers {
		c := api.Code(n)
		want := c == api.Unknown || c == api.Duplicate || c == api.Full
		for _, err := range []error{c, New(c, 3), In(4, c), In(9, outer{In(1, New(c, 0))})} {
			if Harmless(err) != want {
				t.Errorf("Harmless(%v) is not %v", err, want)
			}
		}
	}
	if Harmless(nil) || Harmless(plain{"unknown"}) || Harmless(errors.New("error 5")) {
		t.Error("an error without a code is harmless")
	}
}

// P2.4
func TestNames(t *testing.T) {
	codes := map[int]string{1: "kind", 2: "id", 3: "amount", 4: "number", 5: "unknown", 6: "duplicate", 7: "full", 8: "phase", 9: "syntax", 10: "overflow"}
	kinds := map[int]string{1: "class", 2: "node", 3: "drop", 4: "pod", 5: "delete", 6: "tick", 7: "cycle"}
	for _, n := range numbers {
		if got := Name(api.Code(n)); got != codes[n] {
			t.Errorf("Name(%d) is %q", n, got)
		}
		if got := KindName(n); got != kinds[n] {
			t.Errorf("KindName(%d) is %q", n, got)
		}
	}
}

// P2.5
func TestLibraryFindsWhatIsWrapped(t *testing.T) {
	own := errors.New("own")
	targets := []error{own, errors.New("own"), api.Full, api.Unknown, api.Syntax, api.Code(0), New(api.Full, 7), New(api.Full, 8), New(api.Unknown, 7), outer{api.Full}, plain{"x"}, In(4, api.Full), nil}
	for i, err := range []error{own, api.Full, New(api.Full, 7), outer{api.Full}, outer{}, plain{"x"}, &api.Fault{Code: api.Full}, odd{"x"}, outer{odd{"x"}}, In(2, New(api.Full, 7))} {
		in := levels(err, 4, 99)
		for j, target := range targets {
			if got, want := errors.Is(in, target), errors.Is(err, target); got != want {
				t.Errorf("%d %d: Is is %v", i, j, got)
			}
		}
		if !errors.Is(in, in) || !errors.Is(outer{in}, in) {
			t.Error(i, "an error is not itself")
		}
		asIs[api.Code](t, in, err)
		asIs[api.Fault](t, in, err)
		asIs[outer](t, in, err)
		asIs[odd](t, in, err)
		asIs[coded](t, in, err)
	}
}

// asIs checks that errors.As finds the same error of a type in both.
func asIs[E interface {
	error
	comparable
}](t *testing.T, in, err error) {
	t.Helper()
	var got, want E
	found, ok := errors.As(in, &got), errors.As(err, &want)
	if found != ok || got != want {
		t.Errorf("As(%v) is %v %v, not %v %v", in, got, found, want, ok)
	}
}

// P2.5: errors that cannot be compared do not hinder the search.
func TestLibraryAndErrorsThatCannotBeCompared(t *testing.T) {
	a, b := In(4, plain{"x"}), In(4, plain{"x"})
	errors.Is(In(1, a), b) // must not panic
	if !errors.Is(In(1, a), a) {
		t.Error("Is does not find the error")
	}
	var p plain
	if !errors.As(In(1, a), &p) || p.Error() != "x" {
		t.Error("As does not find the error:", p)
	}
}
