package strut

import (
	"math"
	"testing"

	"decoupage/api"
)

const maxUnit = int64(api.MaxUnit)

// numbers are those at and around every limit that matters to a margin.
func numbers() []int64 {
	l := []int64{math.MinInt64, math.MinInt64 + 1, math.MaxInt64 - 1, math.MaxInt64}
	for _, n := range []int64{1, 7, 1 << 31, 1 << 32, maxUnit / 2, maxUnit, 2 * maxUnit} {
		l = append(l, n-1, n, n+1, -n-1, -n, 1-n)
	}
	return l
}

// struts combine all numbers, so that most of them represent no set of margins.
func struts() []Strut {
	var l []Strut
	for _, p := range numbers() {
		for _, n := range numbers() {
			l = append(l, Strut{P: p, N: n})
		}
	}
	return l
}

func TestOf(t *testing.T) {
	for _, c := range []struct {
		m int64
		s Strut
	}{
		{0, Strut{}},
		{1, Strut{P: 1}},
		{-1, Strut{N: -1}},
		{64, Strut{P: 64}},
		{-64, Strut{N: -64}},
		{maxUnit, Strut{P: maxUnit}},
		{-maxUnit, Strut{N: -maxUnit}},
		{maxUnit + 1, Strut{P: maxUnit + 1}},
		{-maxUnit - 1, Strut{N: -maxUnit - 1}},
		{math.MaxInt64, Strut{P: math.MaxInt64}},
		{math.MinInt64, Strut{N: math.MinInt64}},
	} {
		if s := Of(c.m); s != c.s {
			t.Errorf("Of(%d) is %v instead of %v", c.m, s, c.s)
		}
	}
}

// One margin is the collapsed margin of itself, if it fits.
func TestOfOneMarginHasItsValue(t *testing.T) {
	for _, m := range numbers() {
		want := m
		if !fits(m) {
			want = 0
		}
		if n, ok := Value(Of(m)); n != want || ok != fits(m) {
			t.Errorf("Value(Of(%d)) is %d, %t", m, n, ok)
		}
	}
}

func TestJoin(t *testing.T) {
	for _, c := range []struct {
		name string
		a, b Strut
		want Strut
	}{
		{"two positive", Strut{P: 5}, Strut{P: 7}, Strut{P: 7}},
		{"two negative", Strut{N: -3}, Strut{N: -1}, Strut{N: -3}},
		{"one of each", Strut{P: 5}, Strut{N: -3}, Strut{P: 5, N: -3}},
		{"one with the greater P, the other with the lesser N", Strut{P: 9, N: -1}, Strut{P: 2, N: -8}, Strut{P: 9, N: -8}},
		{"one with both", Strut{P: 9, N: -8}, Strut{P: 2, N: -1}, Strut{P: 9, N: -8}},
		{"same P", Strut{P: 4, N: -1}, Strut{P: 4, N: -2}, Strut{P: 4, N: -2}},
		{"same N", Strut{P: 1, N: -4}, Strut{P: 2, N: -4}, Strut{P: 2, N: -4}},
		{"two zero struts", Strut{}, Strut{}, Strut{}},
		{"negative P", Strut{P: -5, N: -9}, Strut{P: -3, N: -2}, Strut{P: -3, N: -9}},
		{"negative P with the zero strut", Strut{P: -5, N: -9}, Strut{}, Strut{N: -9}},
		{"positive N", Strut{P: 9, N: 5}, Strut{P: 4, N: 3}, Strut{P: 9, N: 3}},
		{"positive N with the zero strut", Strut{P: 9, N: 5}, Strut{}, Strut{P: 9}},
		{"negative P and positive N", Strut{P: -5, N: 6}, Strut{P: -7, N: 8}, Strut{P: -5, N: 6}},
		{"numbers that do not fit", Strut{P: maxUnit + 1, N: -maxUnit - 1}, Strut{P: maxUnit + 2, N: -maxUnit - 2}, Strut{P: maxUnit + 2, N: -maxUnit - 2}},
		{"extremes", Strut{P: math.MinInt64, N: math.MinInt64}, Strut{P: math.MaxInt64, N: math.MaxInt64}, Strut{P: math.MaxInt64, N: math.MinInt64}},
		{"extremes in the same fields", Strut{P: math.MinInt64, N: math.MaxInt64}, Strut{P: math.MinInt64 + 1, N: math.MaxInt64 - 1}, Strut{P: math.MinInt64 + 1, N: math.MaxInt64 - 1}},
	} {
		if got := Join(c.a, c.b); got != c.want {
			t.Errorf("%s: %v instead of %v", c.name, got, c.want)
		}
		if got := Join(c.b, c.a); got != c.want {
			t.Errorf("%s, the other way round: %v instead of %v", c.name, got, c.want)
		}
	}
}

// joinByHand is the definition of Join, written out a second time.
func joinByHand(a, b Strut) Strut {
	if b.P > a.P {
		a.P = b.P
	}
	if b.N < a.N {
		a.N = b.N
	}
	return a
}

func TestJoinOfAnyTwo(t *testing.T) {
	all := struts()
	for _, a := range all {
		if got := Join(a, a); got != a {
			t.Fatalf("%v with itself: %v", a, got)
		}
		for _, b := range all {
			if got, want := Join(a, b), joinByHand(a, b); got != want {
				t.Fatalf("%v with %v: %v instead of %v", a, b, got, want)
			}
		}
	}
}

// The zero strut represents no margins, so it adds nothing to a strut of some.
func TestJoinWithTheZeroStrut(t *testing.T) {
	for _, m := range numbers() {
		for _, n := range numbers() {
			s := Join(Of(m), Of(n))
			if got := Join(s, Strut{}); got != s {
				t.Fatalf("%v with the zero strut: %v", s, got)
			}
			if got := Join(Strut{}, s); got != s {
				t.Fatalf("the zero strut with %v: %v", s, got)
			}
		}
	}
}

// orders returns l in every order.
func orders(l []Strut) [][]Strut {
	if len(l) == 0 {
		return [][]Strut{nil}
	}
	var all [][]Strut
	for i, first := range l {
		var rest []Strut
		rest = append(append(rest, l[:i]...), l[i+1:]...)
		for _, o := range orders(rest) {
			all = append(all, append([]Strut{first}, o...))
		}
	}
	return all
}

// groupings returns the join of l, which is not empty, for every way to put brackets into it.
func groupings(l []Strut) []Strut {
	if len(l) == 1 {
		return l
	}
	var all []Strut
	for i := 1; i < len(l); i++ {
		for _, a := range groupings(l[:i]) {
			for _, b := range groupings(l[i:]) {
				all = append(all, Join(a, b))
			}
		}
	}
	return all
}

func TestJoinInAnyOrderAndGrouping(t *testing.T) {
	for _, c := range []struct {
		l    []Strut
		want Strut
	}{
		{[]Strut{Of(5), Of(7), Of(-3), Of(-1), Of(0)}, Strut{P: 7, N: -3}},
		{[]Strut{Of(5), Of(7), Of(5), {}}, Strut{P: 7}},
		{[]Strut{{P: 1, N: -4}, {P: 4, N: -1}, {P: 2, N: -3}, {P: 3, N: -2}}, Strut{P: 4, N: -4}},
		{[]Strut{{P: -5, N: 9}, {P: -6, N: 8}, {P: -9, N: 5}}, Strut{P: -5, N: 5}},
		{[]Strut{Of(math.MaxInt64), Of(math.MinInt64), Of(maxUnit), Of(-maxUnit)}, Strut{P: math.MaxInt64, N: math.MinInt64}},
	} {
		for _, o := range orders(c.l) {
			for _, got := range groupings(o) {
				if got != c.want {
					t.Errorf("%v: %v instead of %v", o, got, c.want)
				}
			}
		}
	}
}

func TestValue(t *testing.T) {
	for _, c := range []struct {
		name string
		s    Strut
		n    int64
		ok   bool
	}{
		{"zero", Strut{}, 0, true},
		{"P alone", Strut{P: 7}, 7, true},
		{"N alone", Strut{N: -3}, -3, true},
		{"both", Strut{P: 7, N: -3}, 4, true},
		{"both, and less than 0", Strut{P: 3, N: -7}, -4, true},
		{"a sum of 0", Strut{P: 5, N: -5}, 0, true},
		{"negative P", Strut{P: -5, N: -2}, -7, true},
		{"positive N", Strut{P: 5, N: 2}, 7, true},
		{"greatest P", Strut{P: maxUnit}, maxUnit, true},
		{"least N", Strut{N: -maxUnit}, -maxUnit, true},
		{"greatest P and least N", Strut{P: maxUnit, N: -maxUnit}, 0, true},
		{"P beyond the range", Strut{P: maxUnit + 1}, 0, false},
		{"N beyond the range", Strut{N: -maxUnit - 1}, 0, false},
		{"P and N beyond the range", Strut{P: maxUnit + 1, N: -maxUnit - 1}, 0, false},
		{"P beyond the range, sum in it", Strut{P: maxUnit + 1, N: -1}, 0, false},
		{"N beyond the range, sum in it", Strut{P: 1, N: -maxUnit - 1}, 0, false},
		{"least P", Strut{P: -maxUnit}, -maxUnit, true},
		{"greatest N", Strut{N: maxUnit}, maxUnit, true},
		{"negative P beyond the range", Strut{P: -maxUnit - 1, N: 1}, 0, false},
		{"positive N beyond the range", Strut{P: -1, N: maxUnit + 1}, 0, false},
		{"both in the range, sum above it", Strut{P: maxUnit, N: 1}, 0, false},
		{"both in the range, sum below it", Strut{P: -1, N: -maxUnit}, 0, false},
		{"greatest sum of two that fit", Strut{P: maxUnit, N: maxUnit}, 0, false},
		{"least sum of two that fit", Strut{P: -maxUnit, N: -maxUnit}, 0, false},
		{"greatest int64", Strut{P: math.MaxInt64}, 0, false},
		{"least int64", Strut{N: math.MinInt64}, 0, false},
		{"greatest and least int64", Strut{P: math.MaxInt64, N: math.MinInt64}, 0, false},
		{"greatest int64 and its negative", Strut{P: math.MaxInt64, N: -math.MaxInt64}, 0, false},
		{"greatest int64 twice", Strut{P: math.MaxInt64, N: math.MaxInt64}, 0, false},
		{"least int64 twice", Strut{P: math.MinInt64, N: math.MinInt64}, 0, false},
	} {
		if n, ok := Value(c.s); n != c.n || ok != c.ok {
			t.Errorf("%s: %d, %t instead of %d, %t", c.name, n, ok, c.n, c.ok)
		}
	}
}

func fits(n int64) bool { return -maxUnit <= n && n <= maxUnit }

func TestValueOfAnyStrut(t *testing.T) {
	for _, s := range struts() {
		var want int64
		ok := fits(s.P) && fits(s.N) && fits(s.P+s.N)
		if ok {
			want = s.P + s.N
		}
		if n, is := Value(s); n != want || is != ok {
			t.Fatalf("%v: %d, %t instead of %d, %t", s, n, is, want, ok)
		}
	}
}

func TestExample(t *testing.T) {
	var s Strut
	for _, m := range []int64{5, 7, -3, -1} {
		s = Join(s, Of(m))
	}
	if n, ok := Value(s); n != 4 || !ok {
		t.Errorf("%v: %d, %t", s, n, ok)
	}
}

// collapse is what a strut is for, worked out from the margins themselves.
func collapse(margins []int64) int64 {
	var positive, negative int64
	for _, m := range margins {
		if m > positive {
			positive = m
		}
		if m < negative {
			negative = m
		}
	}
	return positive + negative
}

func TestCollapsedMargins(t *testing.T) {
	for _, margins := range [][]int64{nil, {0}, {4}, {-4}, {0, 0}, {3, 3}, {-3, -3}, {8, 2, 5}, {-8, -2, -5}, {10, -4, 6, -9}, {1, -1}, {maxUnit, 1, -1, -maxUnit}} {
		var s Strut
		for _, m := range margins {
			s = Join(s, Of(m))
		}
		if n, ok := Value(s); n != collapse(margins) || !ok {
			t.Errorf("%v: %d, %t", margins, n, ok)
		}
	}
}

func TestSameQuestionSameAnswer(t *testing.T) {
	for _, s := range struts() {
		a, b := s, Strut{P: 7, N: -7}
		joined := Join(a, b)
		n, ok := Value(a)
		if a != s || b != (Strut{P: 7, N: -7}) {
			t.Fatalf("%v: an argument was changed", s)
		}
		if again := Join(a, b); again != joined {
			t.Fatalf("%v: joined to %v, then to %v", s, joined, again)
		}
		if m, is := Value(a); m != n || is != ok {
			t.Fatalf("%v: %d, %t, then %d, %t", s, n, ok, m, is)
		}
		single := Of(s.P)
		if again := Of(s.P); again != single {
			t.Fatalf("Of(%d) is %v, then %v", s.P, single, again)
		}
	}
}
