package script

import (
	"math"
	"math/rand"
	"slices"
	"strconv"
	"strings"
	"testing"

	"hammock/api"
	"hammock/fault"
	"hammock/op"
)

const (
	top   = math.MaxInt
	low   = math.MinInt
	bound = 1 << 62
)

// outside are kinds that are none of layer 3.
var outside = []int{low, math.MinInt32, -256, -7, -1, 0, 8, 9, 255, 256, 257, 1<<32 + 1, 1<<32 + 4, top}

// equal reports whether all fields of two operations are the same.
func equal(a, b api.Op) bool {
	return a.Kind == b.Kind && a.ID == b.ID && a.Class == b.Class && a.N == b.N && a.Flag == b.Flag && slices.Equal(a.Amounts, b.Amounts)
}

// zero reports whether an operation is the zero Op.
func zero(o api.Op) bool { return equal(o, api.Op{}) }

// pairs are plain operations with their lines.
var pairs = []struct {
	o    api.Op
	line string
}{
	{op.Pod(1, 2, 5, 3, 4), "pod 1 2 5 3 4"},
	{op.Class(1, -2, true), "class 1 -2 yes"},
	{op.Class(0, 0, false), "class 0 0 no"},
	{op.Class(10, 100, true), "class 10 100 yes"},
	{op.Node(7, 1), "node 7 1"},
	{op.Node(7), "node 7"},
	{op.Node(7, 0, 10, 200, 3000, 40000, 5, 6, 7, 8, 9), "node 7 0 10 200 3000 40000 5 6 7 8 9"},
	{op.Drop(30), "drop 30"},
	{op.Drop(0), "drop 0"},
	{op.Pod(1, 2, 3), "pod 1 2 3"},
	{op.Pod(1, 2, 3, 4), "pod 1 2 3 4"},
	{op.Delete(9), "delete 9"},
	{op.Tick(12), "tick 12"},
	{op.Tick(0), "tick 0"},
	{op.Cycle(), "cycle"},
	// None of these is well made, but each has a line.
	{op.Class(-1, bound, false), "class -1 4611686018427387904 no"},
	{op.Node(-7, -1, -bound, bound), "node -7 -1 -4611686018427387904 4611686018427387904"},
	{op.Drop(bound), "drop 4611686018427387904"},
	{op.Drop(-bound), "drop -4611686018427387904"},
	{op.Pod(-bound, bound, -1, -2), "pod -4611686018427387904 4611686018427387904 -1 -2"},
	{op.Delete(-bound), "delete -4611686018427387904"},
	{op.Tick(-5), "tick -5"},
	{op.Tick(bound), "tick 4611686018427387904"},
}

// P4.1
func TestLine(t *testing.T) {
	for _, x := range pairs {
		if got, ok := Line(x.o); got != x.line || !ok {
			t.Errorf("%+v: %q, %v, not %q", x.o, got, ok, x.line)
		}
	}
}

// P4.1: the fields that do not matter may have any values.
func TestLineIgnoresFields(t *testing.T) {
	for _, x := range []struct {
		o    api.Op
		line string
	}{
		{api.Op{Kind: api.OpClass, ID: 1, Class: low, N: 2, Flag: true, Amounts: []int64{low, 3}}, "class 1 2 yes"},
		{api.Op{Kind: api.OpNode, ID: 1, Class: low, N: top, Flag: true, Amounts: []int64{3}}, "node 1 3"},
		{api.Op{Kind: api.OpDrop, ID: 1, Class: low, N: top, Flag: true, Amounts: []int64{top}}, "drop 1"},
		{api.Op{Kind: api.OpPod, ID: 1, Class: 2, N: 3, Flag: true, Amounts: []int64{4}}, "pod 1 2 3 4"},
		{api.Op{Kind: api.OpDelete, ID: 1, Class: low, N: top, Flag: true, Amounts: []int64{top}}, "delete 1"},
		{api.Op{Kind: api.OpTick, ID: low, Class: top, N: 3, Flag: true, Amounts: []int64{low}}, "tick 3"},
		{api.Op{Kind: api.OpCycle, ID: low, Class: top, N: top, Flag: true, Amounts: []int64{low}}, "cycle"},
	} {
		if got, ok := Line(x.o); got != x.line || !ok {
			t.Errorf("%+v: %q, %v, not %q", x.o, got, ok, x.line)
		}
	}
}

// lineless are operations of the kinds of layer 3 with a number that is out of range.
func lineless() []api.Op {
	var l []api.Op
	for _, n := range []int{bound + 1, -bound - 1, top, low} {
		a := int64(n)
		l = append(l, op.Class(n, 0, true), op.Class(0, n, true), op.Node(n, 1), op.Node(1, a), op.Node(1, 2, a), op.Node(1, a, 2), op.Drop(n))
		l = append(l, op.Pod(n, 1, 1, 1), op.Pod(1, n, 1, 1), op.Pod(1, 1, n, 1), op.Pod(1, 1, 1, a, 1), op.Pod(1, 1, 1, 1, a), op.Delete(n), op.Tick(n))
	}
	return l
}

// P4.1
func TestLineFails(t *testing.T) {
	l := lineless()
	for _, kind := range outside {
		l = append(l, api.Op{Kind: kind}, api.Op{Kind: kind, ID: 1, N: 2})
	}
	for _, o := range l {
		if got, ok := Line(o); got != "" || ok {
			t.Errorf("%+v: %q, %v", o, got, ok)
		}
	}
}

// P4.1: the amounts are not modified, nor is what lies behind them.
func TestLineKeepsArgument(t *testing.T) {
	all := []int64{1, 2, 3, 4}
	Line(api.Op{Kind: api.OpNode, Amounts: all[:2]})
	Write([]api.Op{{Kind: api.OpPod, Amounts: all[:2]}})
	if !slices.Equal(all, []int64{1, 2, 3, 4}) {
		t.Error(all)
	}
}

// P4.2
func TestParse(t *testing.T) {
	for _, x := range pairs {
		if got, ok := Parse(x.line); !equal(got, x.o) || !ok {
			t.Errorf("%q: %+v, %v, not %+v", x.line, got, ok, x.o)
		}
	}
}

// wrongLines are no lines of operations.
var wrongLines = []string{
	"", " ", "  ", "#", "# cycle", "#cycle", "no", "yes", "1", "operation", "added", "kind",
	"Cycle", "CYCLE", "cycl", "cycles", "cycle ", " cycle", "cycle  ", "cycle 1", "cycle\n", "cycle\r", "\tcycle", "cycle\t", "cycle #", "cycle\x00", "cycle cycle",
	"tick", "tick ", "tick  1", "tick 1 ", " tick 1", "tick 1 2", "tick\t1", "tick 1\n", "tick 1\r", "tick yes", "tick 01", "tick -0", "tick +1", "tick 1_0", "tick 0x1", "tick 1.0", "tick 1e3", "tick 4611686018427387905", "tick -4611686018427387905", "tick1", "tick,1", "tick \xc2\xa01", "tick \u0661",
	"drop", "drop ", "drop 1 2", "drop no", "drop - 1", "drop -", "drop 99999999999999999999999",
	"delete", "delete  1", "delete 1 1", "delete x", "delete 1\x00",
	"class", "class 1", "class 1 2", "class 1 2 ", "class 1 2 3", "class 1 2 Yes", "class 1 2 YES", "class 1 2 true", "class 1 2 y", "class 1 2 n", "class 1 2 yesno", "class 1 2 yes no", "class 1 2 no ", "class 1 2  no", "class 1 yes", "class yes 1 2", "class 1 2 yes 3", "class 1 2 4 yes", "class x 2 yes", "class 1 x no", "class 1 yes 2", "class 1 2 no\n", "class 1 2 1", "class 1 2 0",
	"node", "node ", "node x", "node x 1", "node 1 ", "node 1  2", "node 1 2 ", "node 1 2 x", "node 1 x 2", "node 1 yes", "node 1 -", "node 1 2 4611686018427387905", "node 1 4611686018427387905 2", "node 1 00", "node 1 0 -0", "node 1 1,2", "node 1\n1",
	"pod", "pod 1", "pod 1 2", "pod 1 2 ", "pod 1 2 3 ", "pod 1 2  3", "pod 1 2 3  4", "pod x 2 3 4", "pod 1 x 3 4", "pod 1 2 x 4", "pod 1 2 3 x", "pod 1 2 3 4 x 5", "pod 1 2 3 yes", "pod 1 2 3 4 5 #", "pod 1 2 3 4\n",
}

// P4.2
func TestParseFails(t *testing.T) {
	for _, line := range wrongLines {
		if got, ok := Parse(line); !zero(got) || ok {
			t.Errorf("%q: %+v, %v", line, got, ok)
		}
	}
}

// P4.2: a line is right only if it is the line of its operation.
func TestParseMutants(t *testing.T) {
	r := rand.New(rand.NewSource(1))
	const letters = "0123456789 -#\n\tyesnoclaskickdpm"
	for range 20000 {
		b := []byte(pairs[r.Intn(len(pairs))].line)
		for range 1 + r.Intn(3) {
			at := r.Intn(len(b))
			switch r.Intn(3) {
			case 0:
				b[at] = letters[r.Intn(len(letters))]
			case 1:
				b = slices.Insert(b, at, letters[r.Intn(len(letters))])
			case 2:
				b = append(b[:at:at], b[at+1:]...)
			}
			if len(b) == 0 {
				break
			}
		}
		o, ok := Parse(string(b))
		if !ok {
			if !zero(o) {
				t.Fatalf("%q: %+v", b, o)
			}
			continue
		}
		if line, ok := Line(o); line != string(b) || !ok || !equal(o, op.Plain(o)) {
			t.Fatalf("%q: %+v, %q", b, o, line)
		}
	}
}

// P4.2: two results of the same line share no memory.
func TestParseShares(t *testing.T) {
	a, _ := Parse("node 1 2 3")
	b, _ := Parse("node 1 2 3")
	a.Amounts[0] = 9
	if b.Amounts[0] != 2 {
		t.Error(b)
	}
}

// P4.3
func TestRead(t *testing.T) {
	for _, x := range []struct {
		text string
		want []api.Op
	}{
		{"", nil},
		{"\n", nil},
		{"\n\n\n", nil},
		{"#", nil},
		{"# tick x\n#\n\n##", nil},
		{"cycle", []api.Op{op.Cycle()}},
		{"cycle\n", []api.Op{op.Cycle()}},
		{"\n\ncycle\n\n", []api.Op{op.Cycle()}},
		{"# cycle\ntick 1\n#tick 2\n\ntick 3", []api.Op{op.Tick(1), op.Tick(3)}},
		{"class 1 -2 yes\nnode 1 5\npod 1 1 5 3\ncycle\ndelete 1\ndrop 1\n", []api.Op{op.Class(1, -2, true), op.Node(1, 5), op.Pod(1, 1, 5, 3), op.Cycle(), op.Delete(1), op.Drop(1)}},
		{"tick 5\ntick 5\n", []api.Op{op.Tick(5), op.Tick(5)}},
		{"#\r\ncycle", []api.Op{op.Cycle()}},
	} {
		got, err := Read(x.text)
		if !slices.EqualFunc(got, x.want, equal) || err != nil {
			t.Errorf("%q: %+v, %v", x.text, got, err)
		}
	}
}

// P4.3: all lines are counted, also those that do not count as operations.
func TestReadFails(t *testing.T) {
	for _, x := range []struct {
		text string
		at   int
	}{
		{" ", 0},
		{" #", 0},
		{"cycle ", 0},
		{"\r\n", 0},
		{"cycle\r\ncycle\n", 0},
		{"cycle\n ", 1},
		{"cycle\n \n", 1},
		{"\n\n#\n \n", 3},
		{"# x\n\ncycle\nx\ny\n", 3},
		{"tick 1\ntick 01\ntick 2\ntick -0\n", 1},
		{"\n\n\n\n\n\n\n\n\n\n\n\npod 1", 12},
		{"cycle # no comment", 0},
	} {
		got, err := Read(x.text)
		if f, ok := err.(api.Fault); len(got) != 0 || !ok || f != (api.Fault{Code: api.Syntax, At: x.at}) {
			t.Errorf("%q: %+v, %#v", x.text, got, err)
		}
	}
	for _, line := range wrongLines {
		if line == "" || line[0] == '#' || strings.Contains(line, "\n") {
			continue
		}
		got, err := Read("cycle\n\n" + line + "\ncycle\n")
		if f, ok := err.(api.Fault); len(got) != 0 || !ok || f != (api.Fault{Code: api.Syntax, At: 2}) {
			t.Errorf("%q: %+v, %#v", line, got, err)
		}
	}
}

// P4.3
func TestWrite(t *testing.T) {
	if got, err := Write(nil); got != "" || err != nil {
		t.Error(got, err)
	}
	if got, err := Write([]api.Op{}); got != "" || err != nil {
		t.Error(got, err)
	}
	var l []api.Op
	want := ""
	for _, x := range pairs {
		l = append(l, x.o)
		want += x.line + "\n"
		if got, err := Write(l); got != want || err != nil {
			t.Fatalf("%q, %v, not %q", got, err, want)
		}
	}
}

// P4.3
func TestWriteFails(t *testing.T) {
	good := []api.Op{op.Cycle(), op.Tick(-1), op.Node(1)}
	check := func(o api.Op, code api.Code) {
		for at := range len(good) + 1 {
			l := slices.Insert(slices.Clone(good), at, o)
			// The later ones do not matter.
			l = append(l, api.Op{}, op.Tick(top))
			got, err := Write(l)
			if f, ok := err.(api.Fault); got != "" || !ok || f != (api.Fault{Code: code, At: at}) {
				t.Errorf("%+v at %d: %q, %#v", o, at, got, err)
			}
		}
	}
	for _, o := range lineless() {
		check(o, api.BadNumber)
	}
	for _, kind := range outside {
		check(api.Op{Kind: kind}, api.BadKind)
		check(api.Op{Kind: kind, ID: top, Class: top, N: top, Amounts: []int64{low}}, api.BadKind)
	}
}

// P4.4
func TestNumber(t *testing.T) {
	for _, n := range []int{0, 1, 2, 9, 10, 11, 99, 100, 101, 1234567890, math.MaxInt32, math.MaxInt32 + 1, 1<<53 + 1, bound - 1, bound} {
		for _, n := range []int{n, -n} {
			if got, ok := Number(strconv.Itoa(n)); got != n || !ok {
				t.Error(n, got, ok)
			}
		}
	}
}

// P4.4
func TestNumberFails(t *testing.T) {
	for _, word := range []string{
		"", "-", "--1", "-0", "+0", "+1", "00", "01", "-01", "-00", "007", " 1", "1 ", "1\n", "1-", "1-1", "- 1", "1_000", "0x10", "0b1", "0o7", "1e3", "1.0", ".", ",", "x", "1x", "x1", "\x00", "/", ":", "1/", "1:", "-/", "yes", "no", "\u0661", "\u22121", "\xff", "1\xff",
		"4611686018427387905", "-4611686018427387905", "4611686018427387914", "9223372036854775807", "-9223372036854775808", "9223372036854775808", "-9223372036854775809", "18446744073709551615", "18446744073709551616", "18446744073709551617", "-18446744073709551617", "36893488147419103233", "340282366920938463463374607431768211457",
		strings.Repeat("9", 1000), "-" + strings.Repeat("1", 1000), strings.Repeat("0", 1000), strings.Repeat("0", 30) + "1",
	} {
		if got, ok := Number(word); got != 0 || ok {
			t.Errorf("%q: %d, %v", word, got, ok)
		}
	}
}

// random returns a plain operation with a line.
func random(r *rand.Rand) api.Op {
	number := func() int {
		n := r.Intn(bound+1) >> r.Intn(63)
		if r.Intn(3) == 0 {
			return -n
		}
		return n
	}
	o := api.Op{Kind: 1 + r.Intn(7), ID: number(), Class: number(), N: number(), Flag: r.Intn(2) == 0}
	for range r.Intn(10) {
		o.Amounts = append(o.Amounts, int64(number()))
	}
	return op.Plain(o)
}

// P4.5
func TestInverse(t *testing.T) {
	r := rand.New(rand.NewSource(2))
	for range 2000 {
		var l []api.Op
		for range r.Intn(6) {
			o := random(r)
			l = append(l, o)
			line, ok := Line(o)
			if !ok {
				t.Fatalf("no line: %+v", o)
			}
			if got, ok := Parse(line); !equal(got, o) || !ok {
				t.Fatalf("%+v: %q, %+v, %v", o, line, got, ok)
			}
		}
		text, err := Write(l)
		if err != nil {
			t.Fatal(err)
		}
		if got, err := Read(text); !slices.EqualFunc(got, l, equal) || err != nil {
			t.Fatalf("%+v: %q, %+v, %v", l, text, got, err)
		}
	}
}

// P4.5: the table of the fields fits the kinds of layer 3.
func TestKinds(t *testing.T) {
	for kind := -3; kind < 20; kind++ {
		_, ok := Line(api.Op{Kind: kind})
		if ok != (fault.KindName(kind) != "") || ok != (op.Check(api.Op{Kind: kind}, 0) != fault.New(api.BadKind, 0)) {
			t.Error(kind, ok)
		}
	}
}
