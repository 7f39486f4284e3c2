package size

import (
	"math"
	"math/big"
	"testing"

	"decoupage/api"
)

const (
	maxUnit = int64(api.MaxUnit)
	maxPart = int64(api.MaxPart)
)

func auto(n int64) api.Len  { return api.Len{Kind: api.Auto, N: n} }
func units(n int64) api.Len { return api.Len{Kind: api.Units, N: n} }
func part(n int64) api.Len  { return api.Len{Kind: api.Part, N: n} }

// both are the two values of has.
func both() []bool { return []bool{false, true} }

// strange are Kinds that do not exist, among them some that would exist as 8, 16 or 32-bit numbers.
func strange() []int {
	return []int{math.MinInt, math.MinInt + 1, -1 << 32, 1 - 1<<32, -1 << 31, -256, -3, -2, -1, 3, 4, 9, 256, 257, 258, 1 << 16, 1<<16 + 1, 1<<16 + 2, 1 << 31, 1 << 32, 1<<32 + 1, 1<<32 + 2, math.MaxInt - 1, math.MaxInt}
}

// numbers are those at and around every limit that matters to a length or a base.
func numbers() []int64 {
	l := []int64{math.MinInt64, math.MinInt64 + 1, math.MaxInt64 - 1, math.MaxInt64, maxUnit / 100, maxUnit/100 + 1}
	for _, n := range []int64{7, 3333, 10000, maxPart, maxUnit} {
		l = append(l, n-1, n, n+1, -n-1, -n, 1-n)
	}
	return append(l, -2, -1, 0, 1, 2)
}

// question is what Of, Least and Most are asked.
type question struct {
	x    api.Len
	base int64
	has  bool
}

// questions combine all Kinds, numbers and bases, with has true and false.
func questions() []question {
	var l []question
	for _, kind := range append(strange(), api.Auto, api.Units, api.Part) {
		for _, n := range numbers() {
			for _, base := range numbers() {
				for _, has := range both() {
					l = append(l, question{api.Len{Kind: kind, N: n}, base, has})
				}
			}
		}
	}
	return l
}

func within(n, least, most int64) bool { return least <= n && n <= most }

// partByHand is the definition of chapter 1, in numbers without bounds.
func partByHand(base, part int64) (int64, bool) {
	if !within(base, 0, maxUnit) || !within(part, -maxPart, maxPart) {
		return 0, false
	}
	// big's Div rounds down for a positive divisor.
	exact := new(big.Int).Mul(big.NewInt(base), big.NewInt(part))
	exact.Div(exact, big.NewInt(10000))
	if !exact.IsInt64() || !within(exact.Int64(), -maxUnit, maxUnit) {
		return 0, false
	}
	return exact.Int64(), true
}

// ofByHand is the definition of the chapter, sentence by sentence.
func ofByHand(q question) (Size, bool) {
	if q.x.Kind == 0 || q.x.Kind == 2 && !q.has {
		return Size{Auto: true}, true
	}
	if q.x.Kind == 1 && within(q.x.N, -maxUnit, maxUnit) {
		return Size{N: q.x.N}, true
	}
	if q.x.Kind == 2 {
		n, ok := partByHand(q.base, q.x.N)
		return Size{N: n}, ok
	}
	return Size{}, false
}

func TestExample(t *testing.T) {
	if s, ok := Of(part(5000), 7, true); s != (Size{N: 3}) || !ok {
		t.Errorf("%v, %t", s, ok)
	}
}

// An auto length is auto with each N and each base, and its own N is not in the result.
func TestOfAuto(t *testing.T) {
	for _, n := range numbers() {
		for _, base := range numbers() {
			for _, has := range both() {
				if s, ok := Of(auto(n), base, has); s != (Size{Auto: true}) || !ok {
					t.Errorf("auto with N %d, base %d, %t: %v, %t", n, base, has, s, ok)
				}
			}
		}
	}
}

// Units are what they are with each base, with those of which Part would return false too.
func TestOfUnits(t *testing.T) {
	for _, n := range []int64{0, 1, -1, -9, 64, maxPart + 1, -maxPart - 1, api.MaxLen, maxUnit - 1, maxUnit, 1 - maxUnit, -maxUnit} {
		for _, base := range numbers() {
			for _, has := range both() {
				if s, ok := Of(units(n), base, has); s != (Size{N: n}) || !ok {
					t.Errorf("%d units, base %d, %t: %v, %t", n, base, has, s, ok)
				}
			}
		}
	}
}

func TestOfUnitsThatDoNotFit(t *testing.T) {
	for _, n := range []int64{maxUnit + 1, -maxUnit - 1, 2 * maxUnit, math.MaxInt64, math.MinInt64} {
		for _, has := range both() {
			if s, ok := Of(units(n), 7, has); s != (Size{}) || ok {
				t.Errorf("%d units, %t: %v, %t", n, has, s, ok)
			}
		}
	}
}

func TestOfPart(t *testing.T) {
	for _, c := range []struct{ n, base, want int64 }{
		{10000, 7, 7},
		{5000, 7, 3},
		{-5000, 7, -4},
		{-10000, 7, -7},
		{1, 1, 0},
		{-1, 1, -1},
		{-3333, 7, -3},
		{0, 7, 0},
		{0, 0, 0},
		{5000, 0, 0},
		{-5000, 0, 0},
		{0, maxUnit, 0},
		{maxPart, 0, 0},
		{-maxPart, 0, 0},
		{maxPart, 1, 100},
		{-maxPart, 1, -100},
		{maxPart - 1, 1, 99},
		{1 - maxPart, 1, -100},
		{10000, maxUnit, maxUnit},
		{-10000, maxUnit, -maxUnit},
		{1, maxUnit - 1, 112589990684},
		{maxPart, maxUnit / 100, maxUnit / 100 * 100},
		{-maxPart, maxUnit / 100, -(maxUnit / 100 * 100)},
	} {
		if s, ok := Of(part(c.n), c.base, true); s != (Size{N: c.want}) || !ok {
			t.Errorf("Part %d of %d: %v, %t instead of %d", c.n, c.base, s, ok, c.want)
		}
	}
}

// noPart are pairs of an N and a base of which Part returns false.
func noPart() [][2]int64 {
	return [][2]int64{
		{maxPart + 1, 7},
		{-maxPart - 1, 7},
		{maxPart + 1, 0},
		{-maxPart - 1, 0},
		{maxUnit, 7},
		{math.MaxInt64, 7},
		{math.MinInt64, 7},
		{5000, -1},
		{0, -1},
		{5000, maxUnit + 1},
		{0, maxUnit + 1},
		{5000, math.MaxInt64},
		{5000, math.MinInt64},
		{10001, maxUnit},
		{-10001, maxUnit},
		{maxPart, maxUnit},
		{-maxPart, maxUnit},
		{maxPart, maxUnit/100 + 1},
		{-maxPart, maxUnit/100 + 1},
	}
}

func TestOfPartRefused(t *testing.T) {
	for _, c := range noPart() {
		if s, ok := Of(part(c[0]), c[1], true); s != (Size{}) || ok {
			t.Errorf("Part %d of %d: %v, %t", c[0], c[1], s, ok)
		}
	}
}

// Without a base nothing is asked of Part, so that a Part is auto whatever its N and the unused base are.
func TestOfPartWithoutBase(t *testing.T) {
	for _, n := range numbers() {
		for _, base := range numbers() {
			if s, ok := Of(part(n), base, false); s != (Size{Auto: true}) || !ok {
				t.Errorf("Part %d, no base (%d): %v, %t", n, base, s, ok)
			}
		}
	}
}

func TestOfOtherKinds(t *testing.T) {
	for _, kind := range strange() {
		for _, n := range []int64{0, 1, 5000, math.MaxInt64} {
			for _, has := range both() {
				if s, ok := Of(api.Len{Kind: kind, N: n}, 7, has); s != (Size{}) || ok {
					t.Errorf("Kind %d, N %d, %t: %v, %t", kind, n, has, s, ok)
				}
			}
		}
	}
}

func TestOfByHand(t *testing.T) {
	for _, q := range questions() {
		want, fine := ofByHand(q)
		if s, ok := Of(q.x, q.base, q.has); s != want || ok != fine {
			t.Errorf("%v: %v, %t instead of %v, %t", q, s, ok, want, fine)
		}
	}
}

func TestOr(t *testing.T) {
	for _, n := range numbers() {
		for _, own := range numbers() {
			if got := Or(Size{Auto: true, N: own}, n); got != n {
				t.Errorf("auto with N %d, or %d: %d", own, n, got)
			}
			if got := Or(Size{N: own}, n); got != own {
				t.Errorf("%d, or %d: %d", own, n, got)
			}
		}
	}
}

func TestSides(t *testing.T) {
	for _, c := range []struct {
		l    [4]api.Len
		base int64
		want [4]Size
	}{
		{[4]api.Len{}, 7, [4]Size{{Auto: true}, {Auto: true}, {Auto: true}, {Auto: true}}},
		{[4]api.Len{units(1), units(2), units(3), units(4)}, 7, [4]Size{{N: 1}, {N: 2}, {N: 3}, {N: 4}}},
		{[4]api.Len{part(10000), part(20000), part(5000), part(-5000)}, 7, [4]Size{{N: 7}, {N: 14}, {N: 3}, {N: -4}}},
		{[4]api.Len{auto(9), units(-9), part(5000), auto(0)}, 7, [4]Size{{Auto: true}, {N: -9}, {N: 3}, {Auto: true}}},
		{[4]api.Len{part(5000), part(-5000), part(0), part(maxPart)}, 0, [4]Size{}},
		{[4]api.Len{units(maxUnit), units(-maxUnit), part(10000), part(-10000)}, maxUnit, [4]Size{{N: maxUnit}, {N: -maxUnit}, {N: maxUnit}, {N: -maxUnit}}},
		{[4]api.Len{units(1), auto(0), units(0), auto(5)}, -1, [4]Size{{N: 1}, {Auto: true}, {}, {Auto: true}}},
		{[4]api.Len{units(1), auto(0), units(0), auto(5)}, maxUnit + 1, [4]Size{{N: 1}, {Auto: true}, {}, {Auto: true}}},
	} {
		if s, ok := Sides(c.l, c.base); s != c.want || !ok {
			t.Errorf("%v of %d: %v, %t instead of %v", c.l, c.base, s, ok, c.want)
		}
	}
}

// plain are four different sides, with each Kind that has a number among them.
func plain() [4]api.Len { return [4]api.Len{units(11), part(30000), units(-33), part(-5000)} }

func plainSizes() [4]Size { return [4]Size{{N: 11}, {N: 21}, {N: -33}, {N: -4}} }

// One side alone is different, at each place, and the other three stay what they are.
func TestSidesOneDifferent(t *testing.T) {
	for side := range 4 {
		for _, c := range []struct {
			x    api.Len
			want Size
		}{
			{auto(0), Size{Auto: true}},
			{auto(5), Size{Auto: true}},
			{units(0), Size{}},
			{units(55), Size{N: 55}},
			{part(10000), Size{N: 7}},
		} {
			l, want := plain(), plainSizes()
			l[side], want[side] = c.x, c.want
			if s, ok := Sides(l, 7); s != want || !ok {
				t.Errorf("%v: %v, %t instead of %v", l, s, ok, want)
			}
		}
	}
}

func TestSidesOneRefused(t *testing.T) {
	wrong := []api.Len{units(maxUnit + 1), units(-maxUnit - 1), part(maxPart + 1), part(-maxPart - 1)}
	for _, kind := range strange() {
		wrong = append(wrong, api.Len{Kind: kind, N: 1})
	}
	for side := range 4 {
		for _, x := range wrong {
			l := plain()
			l[side] = x
			if s, ok := Sides(l, 7); s != ([4]Size{}) || ok {
				t.Errorf("%v: %v, %t", l, s, ok)
			}
		}
	}
}

// A base that Part refuses matters only to a side that is a Part.
func TestSidesBaseRefused(t *testing.T) {
	for side := range 4 {
		for _, base := range []int64{-1, maxUnit + 1, math.MinInt64, math.MaxInt64} {
			l := [4]api.Len{units(1), auto(0), units(2), auto(0)}
			if _, ok := Sides(l, base); !ok {
				t.Errorf("%v of %d is refused", l, base)
			}
			l[side] = part(0)
			if s, ok := Sides(l, base); s != ([4]Size{}) || ok {
				t.Errorf("%v of %d: %v, %t", l, base, s, ok)
			}
		}
	}
}

func TestLeastAndMost(t *testing.T) {
	for _, c := range []struct {
		x           api.Len
		base        int64
		has         bool
		least, most int64
	}{
		{auto(0), 7, true, 0, maxUnit},
		{auto(0), 7, false, 0, maxUnit},
		{auto(5), 7, true, 0, maxUnit},
		{auto(0), -1, true, 0, maxUnit},
		{part(5000), 7, false, 0, maxUnit},
		{part(-5000), 7, false, 0, maxUnit},
		{part(maxPart + 1), -1, false, 0, maxUnit},
		{part(5000), 7, true, 3, 3},
		{part(-5000), 7, true, -4, -4},
		{part(0), 7, true, 0, 0},
		{part(5000), 0, true, 0, 0},
		{units(0), 7, true, 0, 0},
		{units(9), 7, true, 9, 9},
		{units(9), -1, false, 9, 9},
		{units(-9), 7, true, -9, -9},
		{units(-9), 7, false, -9, -9},
		{units(maxUnit), 7, true, maxUnit, maxUnit},
		{units(-maxUnit), 7, true, -maxUnit, -maxUnit},
	} {
		if n, ok := Least(c.x, c.base, c.has); n != c.least || !ok {
			t.Errorf("Least(%v, %d, %t): %d, %t instead of %d", c.x, c.base, c.has, n, ok, c.least)
		}
		if n, ok := Most(c.x, c.base, c.has); n != c.most || !ok {
			t.Errorf("Most(%v, %d, %t): %d, %t instead of %d", c.x, c.base, c.has, n, ok, c.most)
		}
	}
}

func TestLeastAndMostRefused(t *testing.T) {
	l := []question{
		{units(maxUnit + 1), 7, true},
		{units(-maxUnit - 1), 7, false},
		{api.Len{Kind: 3}, 7, true},
		{api.Len{Kind: -1, N: 5}, 7, false},
		{api.Len{Kind: math.MaxInt, N: 5}, 7, true},
		{api.Len{Kind: math.MinInt, N: 5}, 7, true},
	}
	for _, c := range noPart() {
		l = append(l, question{part(c[0]), c[1], true})
	}
	for _, q := range l {
		if n, ok := Least(q.x, q.base, q.has); n != 0 || ok {
			t.Errorf("Least of %v: %d, %t", q, n, ok)
		}
		if n, ok := Most(q.x, q.base, q.has); n != 0 || ok {
			t.Errorf("Most of %v: %d, %t", q, n, ok)
		}
	}
}

func TestLeastAndMostByHand(t *testing.T) {
	for _, q := range questions() {
		s, fine := ofByHand(q)
		least, most := s.N, s.N
		if s.Auto {
			least, most = 0, maxUnit
		}
		if n, ok := Least(q.x, q.base, q.has); n != least || ok != fine {
			t.Errorf("Least of %v: %d, %t instead of %d, %t", q, n, ok, least, fine)
		}
		if n, ok := Most(q.x, q.base, q.has); n != most || ok != fine {
			t.Errorf("Most of %v: %d, %t instead of %d, %t", q, n, ok, most, fine)
		}
	}
}

// answers is everything that is said of one question.
type answers struct {
	of                  Size
	sides               [4]Size
	or, least, most     int64
	ok, all, low, great bool
}

func ask(q question) answers {
	var a answers
	a.of, a.ok = Of(q.x, q.base, q.has)
	a.or = Or(a.of, q.base)
	a.sides, a.all = Sides([4]api.Len{q.x, units(1), q.x, auto(0)}, q.base)
	a.least, a.low = Least(q.x, q.base, q.has)
	a.most, a.great = Most(q.x, q.base, q.has)
	return a
}

// Nothing of one call is left for the next one: all questions are asked again, backwards.
func TestSameAnswers(t *testing.T) {
	l := questions()
	var first []answers
	for _, q := range l {
		first = append(first, ask(q))
	}
	for i := len(l) - 1; i >= 0; i-- {
		if a := ask(l[i]); a != first[i] {
			t.Errorf("%v: %v, later %v", l[i], first[i], a)
		}
	}
}

func TestArgumentsAndResultsAreApart(t *testing.T) {
	l := plain()
	one, _ := Sides(l, 7)
	two, _ := Sides(l, 7)
	if l != plain() {
		t.Errorf("the argument has become %v", l)
	}
	one[0], l[1] = Size{N: 99}, units(99)
	if two != plainSizes() {
		t.Errorf("the other result has become %v", two)
	}
	q := question{part(5000), 7, true}
	ask(q)
	if q != (question{part(5000), 7, true}) {
		t.Errorf("the argument has become %v", q)
	}
}
