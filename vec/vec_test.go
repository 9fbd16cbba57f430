package vec

import (
	"math"
	"math/big"
	"slices"
	"testing"

	"hammock/api"
)

const (
	top = math.MaxInt64
	low = math.MinInt64
)

// edges are the elements at which a result leaves a range.
var edges = []int64{low, low + 1, -api.MaxAmount, -2, -1, 0, 1, 2, api.MaxAmount - 1, api.MaxAmount, api.MaxAmount + 1, 1 << 62, top - 1, top}

// check compares a vector and a bool with what is wanted (nothing, if ok is false).
func check(t *testing.T, what any, got []int64, gotOK bool, want []int64, ok bool) {
	t.Helper()
	if gotOK != ok || !slices.Equal(got, want) {
		t.Errorf("%v: got %v %v, want %v %v", what, got, gotOK, want, ok)
	}
}

// exact returns the sum of numbers, the last ones of which are subtracted, and whether it fits in an int64.
func exact(plus []int64, minus ...int64) (int64, bool) {
	sum := new(big.Int)
	for _, x := range plus {
		sum.Add(sum, big.NewInt(x))
	}
	for _, x := range minus {
		sum.Sub(sum, big.NewInt(x))
	}
	if !sum.IsInt64() {
		return 0, false
	}
	return sum.Int64(), true
}

// one returns a vector of one element, or nothing if ok is false.
func one(x int64, ok bool) []int64 {
	if !ok {
		return nil
	}
	return []int64{x}
}

// P1.1
func TestZero(t *testing.T) {
	for _, x := range []struct{ dims, want int }{{low, 0}, {-1, 0}, {0, 0}, {1, 1}, {3, 3}, {api.MaxDims, api.MaxDims}, {1000, 1000}} {
		v := Zero(x.dims)
		if len(v) != x.want || slices.ContainsFunc(v, func(e int64) bool { return e != 0 }) {
			t.Errorf("Zero(%d) is %v", x.dims, v)
		}
	}
	a, b := Zero(2), Zero(2)
	a[0] = 1
	if b[0] != 0 {
		t.Error("two vectors of zeros share memory")
	}
}

// P1.1
func TestAdd(t *testing.T) {
	for _, x := range []struct {
		l    [][]int64
		want []int64
		ok   bool
	}{
		{[][]int64{{1, 2}, {3, 4}}, []int64{4, 6}, true},
		{[][]int64{{1, 2}}, []int64{1, 2}, true},
		{[][]int64{{1, -2}, {3, -4}, {-5, 5}}, []int64{-1, -1}, true},
		{[][]int64{{}}, nil, true},
		{[][]int64{nil, {}, nil}, nil, true},
		{nil, nil, false},
		{[][]int64{{1, 2}, {3}}, nil, false},
		{[][]int64{{1}, {2, 3}}, nil, false},
		{[][]int64{{1}, nil}, nil, false},
		{[][]int64{nil, {1}}, nil, false},
		{[][]int64{{1}, {2}, {3}, {4, 5}}, nil, false},
		{[][]int64{{top, 1}, {0, 1}}, []int64{top, 2}, true},
		{[][]int64{{1, top}, {1, 1}}, nil, false},
		{[][]int64{{low, 1}, {-1, 1}}, nil, false},
		{[][]int64{{top}, {top}, {low}, {low}}, []int64{-2}, true},
		{[][]int64{{low}, {low}, {top}, {top}}, []int64{-2}, true},
		{[][]int64{{low}, {low}}, nil, false},
		{[][]int64{{top}, {top}, {2}}, nil, false},
		{[][]int64{{top}, {top}, {top}, {top}}, nil, false},
		{[][]int64{{low}, {low}, {low}, {low}}, nil, false},
	} {
		got, ok := Add(x.l...)
		check(t, x.l, got, ok, x.want, x.ok)
	}
}

// P1.1
func TestAddIsExact(t *testing.T) {
	for _, a := range edges {
		for _, b := range edges {
			for _, c := range edges {
				want, fits := exact([]int64{a, b, c})
				got, ok := Add([]int64{a}, []int64{b}, []int64{c})
				check(t, []int64{a, b, c}, got, ok, one(want, fits), fits)
			}
		}
	}
}

// P1.2
func TestSub(t *testing.T) {
	for _, x := range []struct {
		a, b, want []int64
		ok         bool
	}{
		{[]int64{3, 4}, []int64{1, 2}, []int64{2, 2}, true},
		{[]int64{3, 4}, []int64{3, 4}, []int64{0, 0}, true},
		{[]int64{-3}, []int64{-4}, []int64{1}, true},
		{nil, []int64{}, nil, true},
		{[]int64{3, 4}, []int64{1, 5}, nil, false},
		{[]int64{3, 4}, []int64{4, 3}, nil, false},
		{[]int64{3, 4}, []int64{1}, nil, false},
		{[]int64{3}, []int64{1, 2}, nil, false},
		{nil, []int64{0}, nil, false},
		{[]int64{0}, nil, nil, false},
		{[]int64{1, top}, []int64{1, -1}, nil, false},
		{[]int64{0}, []int64{low}, nil, false},
		{[]int64{low}, []int64{top}, nil, false},
		{[]int64{-1}, []int64{low}, []int64{top}, true},
	} {
		got, ok := Sub(x.a, x.b)
		check(t, [][]int64{x.a, x.b}, got, ok, x.want, x.ok)
	}
}

// P1.2
func TestSubIsExact(t *testing.T) {
	for _, a := range edges {
		for _, b := range edges {
			want, fits := exact([]int64{a}, b)
			fits = fits && want >= 0
			got, ok := Sub([]int64{a}, []int64{b})
			check(t, []int64{a, b}, got, ok, one(want, fits), fits)
		}
	}
}

// P1.3
func TestFits(t *testing.T) {
	for _, x := range []struct {
		a, b []int64
		want bool
	}{
		{[]int64{1, 2}, []int64{1, 5}, true},
		{[]int64{1, 2}, []int64{1, 2}, true},
		{[]int64{2, 1}, []int64{1, 5}, false},
		{[]int64{1, 6}, []int64{1, 5}, false},
		{[]int64{low}, []int64{top}, true},
		{[]int64{top}, []int64{low}, false},
		{nil, []int64{}, true},
		{nil, []int64{1}, false},
		{[]int64{0}, nil, false},
		{[]int64{1}, []int64{1, 5}, false},
		{[]int64{1, 2}, []int64{1}, false},
	} {
		if got := Fits(x.a, x.b); got != x.want {
			t.Errorf("Fits(%v, %v) is %v", x.a, x.b, got)
		}
	}
}

// P1.3
func TestMost(t *testing.T) {
	for _, x := range []struct {
		a, b, want []int64
		ok         bool
	}{
		{[]int64{1, 5, 3}, []int64{2, 4, 3}, []int64{2, 5, 3}, true},
		{[]int64{low, top}, []int64{top, low}, []int64{top, top}, true},
		{[]int64{-2}, []int64{-1}, []int64{-1}, true},
		{nil, []int64{}, nil, true},
		{[]int64{1}, nil, nil, false},
		{nil, []int64{1}, nil, false},
		{[]int64{1, 2}, []int64{1}, nil, false},
		{[]int64{1}, []int64{1, 2}, nil, false},
	} {
		got, ok := Most(x.a, x.b)
		check(t, [][]int64{x.a, x.b}, got, ok, x.want, x.ok)
	}
}

// P1.3
func TestSame(t *testing.T) {
	for _, x := range []struct {
		a, b []int64
		want bool
	}{
		{[]int64{1, 2}, []int64{1, 2}, true},
		{[]int64{low, top}, []int64{low, top}, true},
		{nil, []int64{}, true},
		{nil, nil, true},
		{[]int64{1, 2}, []int64{1, 3}, false},
		{[]int64{1, 3}, []int64{1, 2}, false},
		{[]int64{0, 2}, []int64{1, 2}, false},
		{[]int64{1, 2}, []int64{2, 1}, false},
		{[]int64{1, 2}, []int64{1}, false},
		{[]int64{1}, []int64{1, 2}, false},
		{nil, []int64{0}, false},
	} {
		if got := Same(x.a, x.b); got != x.want {
			t.Errorf("Same(%v, %v) is %v", x.a, x.b, got)
		}
	}
}

// P1.4
func TestWrong(t *testing.T) {
	const most = api.MaxAmount
	for _, x := range []struct {
		v          []int64
		dims, want int
	}{
		{[]int64{0, most}, 2, -1},
		{[]int64{1, 2, 3, 4, 5, 6, 7, 8}, 8, -1},
		{nil, 0, -1},
		{[]int64{}, 0, -1},
		{[]int64{-1}, 1, 0},
		{[]int64{0, most + 1}, 2, 1},
		{[]int64{0, top}, 2, 1},
		{[]int64{1, low, -1}, 3, 1},
		{[]int64{most + 1, -1}, 2, 0},
		{[]int64{1, 2}, 3, 2},
		{[]int64{1, 2}, 1, 1},
		{[]int64{1, 2}, 0, 0},
		{nil, 2, 0},
		{nil, -1, 0},
		{[]int64{1, 2}, -1, 0},
		{[]int64{1, 2}, low, 0},
		{[]int64{1, 2}, top, 2},
		// An element that is out of range counts first, wherever it is.
		{[]int64{1, -2}, 1, 1},
		{[]int64{1, 2, -3}, -1, 2},
		{[]int64{-1, 2}, 3, 0},
	} {
		if got := Wrong(x.v, x.dims); got != x.want {
			t.Errorf("Wrong(%v, %d) is %d, not %d", x.v, x.dims, got, x.want)
		}
	}
}

// P1.5
func TestAddManyValid(t *testing.T) {
	const many = 1 << 22
	v := []int64{api.MaxAmount, 0}
	if i := Wrong(v, len(v)); i != -1 {
		t.Fatal(i)
	}
	got, ok := Add(slices.Repeat([][]int64{v}, many)...)
	check(t, "many", got, ok, []int64{many * api.MaxAmount, 0}, true)
}

// P1.5
func TestSubInvertsAdd(t *testing.T) {
	for _, x := range edges {
		for _, y := range edges {
			a, b := []int64{x, 3}, []int64{y, 4}
			if Wrong(a, 2) != -1 || Wrong(b, 2) != -1 {
				continue
			}
			sum, ok := Add(a, b)
			check(t, [][]int64{a, b}, sum, ok, []int64{x + y, 7}, true)
			got, ok := Sub(sum, b)
			check(t, [][]int64{sum, b}, got, ok, a, true)
		}
	}
}

// Rule 5 of the document, for P1.1 to P1.4.
func TestArgumentsStay(t *testing.T) {
	backA, backB := []int64{1, 2, 8, 9}, []int64{1, 1, 6, 7}
	a, b := backA[:2], backB[:2]
	l := [][]int64{a, b}
	results := map[string][]int64{}
	results["Add"], _ = Add(l...)
	results["Add of one"], _ = Add(a)
	results["Sub"], _ = Sub(a, b)
	results["Most"], _ = Most(a, b)
	Fits(a, b)
	Same(a, b)
	Wrong(a, 2)
	for name, v := range results {
		if len(v) != 2 {
			t.Errorf("%s is %v", name, v)
		}
		v = append(v, -1)
		for i := range v {
			v[i] = -1
		}
	}
	if !slices.Equal(backA, []int64{1, 2, 8, 9}) || !slices.Equal(backB, []int64{1, 1, 6, 7}) || len(l) != 2 || len(l[0]) != 2 || len(l[1]) != 2 {
		t.Error("arguments changed:", backA, backB, l)
	}
}
