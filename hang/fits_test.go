package hang

import (
	"testing"

	"decoupage/size"
)

// set puts a number into a box; of a size, it makes it given.
type set struct {
	name string
	put  func(in *In, n int64)
}

// numbers are the ten numbers that have to fit.
func numbers() []set {
	return []set{
		{"Base", func(in *In, n int64) { in.Base = n }},
		{"Around", func(in *In, n int64) { in.Around = n }},
		{"Want", func(in *In, n int64) { in.Want = n }},
		{"Static", func(in *In, n int64) { in.Static = n }},
		{"Behind", func(in *In, n int64) { in.Behind = n }},
		{"Left", func(in *In, n int64) { in.Left = units(n) }},
		{"MarginL", func(in *In, n int64) { in.MarginL = units(n) }},
		{"Wide", func(in *In, n int64) { in.Wide = units(n) }},
		{"MarginR", func(in *In, n int64) { in.MarginR = units(n) }},
		{"Right", func(in *In, n int64) { in.Right = units(n) }},
	}
}

// Each number at both limits in a box whose other numbers are 0 or auto; what is beyond the limits gives false in every direction.
func TestGivenFits(t *testing.T) {
	all, given := empty(0, auto, auto, auto, auto, auto), empty(0, units(0), auto, units(0), auto, units(0))
	for i, c := range []struct {
		in      In
		at, not Out
	}{
		{all, Out{Right: maxUnit}, Out{Right: -maxUnit}},
		{all, Out{Right: -maxUnit}, Out{Right: maxUnit}},
		{all, Out{Wide: maxUnit, Right: -maxUnit}, Out{Wide: -maxUnit, Right: maxUnit}},
		{all, Out{Left: maxUnit, Right: -maxUnit}, Out{Left: -maxUnit, Right: maxUnit}},
		{turned(all), Out{Left: -maxUnit, Right: maxUnit}, Out{Left: maxUnit, Right: -maxUnit}},
		{all, Out{Left: maxUnit, Right: -maxUnit}, Out{Left: -maxUnit, Right: maxUnit}},
		{all, Out{MarginL: maxUnit, Right: -maxUnit}, Out{MarginL: -maxUnit, Right: maxUnit}},
		{given, Out{Wide: maxUnit, MarginR: -maxUnit}, Out{MarginL: maxUnit / 2, Wide: -maxUnit, MarginR: maxUnit / 2}},
		{all, Out{MarginR: maxUnit, Right: -maxUnit}, Out{MarginR: -maxUnit, Right: maxUnit}},
		{all, Out{Left: -maxUnit, Right: maxUnit}, Out{Left: maxUnit, Right: -maxUnit}},
	} {
		number := numbers()[i]
		in := c.in
		number.put(&in, maxUnit)
		check(t, question{number.name + " at the limit", in, c.at})
		number.put(&in, -maxUnit)
		check(t, question{number.name + " at the negative limit", in, c.not})
		for _, n := range beyond() {
			number.put(&in, n)
			checkFalse(t, number.name, in)
		}
	}
}

// A number that is given and does not fit gives false in every pattern, also where it has no influence on the result.
func TestGivenFitsForItself(t *testing.T) {
	for i := range 32 {
		sizes := [5]size.Size{units(5), units(2), units(40), units(3), units(6)}
		for k := range sizes {
			sizes[k].Auto = i>>k&1 == 1
		}
		for _, number := range numbers() {
			for _, n := range beyond() {
				in := box(sizes[0], sizes[1], sizes[2], sizes[3], sizes[4])
				number.put(&in, n)
				checkFalse(t, number.name, in)
				checkFalse(t, number.name+", with a width within bounds", bounded(in, 10, 10))
			}
		}
	}
}

// What has no influence still fits at its limits, and then has none.
func TestWithoutInfluenceAtTheLimits(t *testing.T) {
	given, static := box(units(5), auto, units(40), auto, units(6)), box(auto, auto, units(40), auto, auto)
	none := box(units(5), units(2), units(40), units(3), units(6))
	for _, n := range []int64{maxUnit, -maxUnit} {
		for _, number := range numbers()[2:5] {
			in := given
			number.put(&in, n)
			checkAll(t, question{number.name, in, Out{5, 69, 40, 70, 6}})
		}
		for _, in := range []In{static, rtl(static)} {
			in.Want, in.Behind = n, n
			check(t, question{"Want and Behind", in, Out{20, 0, 40, 0, 130}})
			in = turned(in)
			in.Static, in.Behind = n, 15
			check(t, question{"Want and Static", in, Out{135, 0, 40, 0, 15}})
		}
		ltr, other := none, rtl(none)
		ltr.Right, other.Left = units(n), units(n)
		check(t, question{"Right", ltr, Out{5, 2, 40, 3, 140}}, question{"Left", other, Out{139, 2, 40, 3, 6}})
	}
}

// A number that does not fit gives false also where another one makes up for it, so that all results would fit.
func TestMadeUpFor(t *testing.T) {
	zero, one := units(0), units(1)
	for _, n := range beyond() {
		checkFalse(t, "Base by Around", around(n, empty(n, zero, auto, auto, auto, zero)))
		checkFalse(t, "Base by Left", empty(n, units(n), auto, auto, auto, zero))
		checkFalse(t, "MarginL by MarginR", empty(0, zero, units(n), auto, units(-n), zero))
		checkFalse(t, "Left by Right", empty(0, units(n), auto, auto, auto, units(-n)))
	}
	checkFalse(t, "Base, and a width at the limit", empty(maxUnit+1, zero, one, auto, auto, zero))
	checkFalse(t, "Base, and margins far within", empty(maxUnit+1, zero, auto, units(maxUnit), auto, zero))
	checkFalse(t, "Around, and a width at the negative limit", around(maxUnit+1, empty(1, zero, auto, auto, auto, zero)))
	checkFalse(t, "Around, and margins far within", around(-maxUnit-1, empty(0, zero, auto, units(9), auto, zero)))
}

// The number of a size that is auto has no influence, also where it does not fit.
func TestNumberOfAuto(t *testing.T) {
	for _, n := range append(beyond(), 0, 1, -1, 50, maxUnit, -maxUnit) {
		odd := size.Size{Auto: true, N: n}
		checkTurned(t, "all", box(odd, odd, odd, odd, odd), Out{20, 0, 30, 0, 140}, Out{145, 0, 30, 0, 15})
		checkTurned(t, "distances", box(odd, units(2), units(40), units(3), odd), Out{20, 2, 40, 3, 125}, Out{130, 2, 40, 3, 15})
		checkAll(t,
			question{"left and width", box(odd, auto, odd, auto, units(6)), Out{154, 0, 30, 0, 6}},
			question{"right and width", box(units(5), auto, odd, auto, odd), Out{5, 0, 30, 0, 155}},
			question{"left", box(odd, auto, units(40), auto, units(6)), Out{144, 0, 40, 0, 6}},
			question{"right", box(units(5), auto, units(40), auto, odd), Out{5, 0, 40, 0, 145}},
			question{"width and margins", box(units(5), odd, odd, odd, units(6)), Out{5, 0, 179, 0, 6}},
			question{"margins", box(units(5), odd, units(40), odd, units(6)), Out{5, 69, 40, 70, 6}},
			question{"left margin", box(units(5), odd, units(40), units(3), units(6)), Out{5, 136, 40, 3, 6}},
			question{"right margin", box(units(5), units(2), units(40), odd, units(6)), Out{5, 2, 40, 137, 6}},
			question{"width, then Most", bounded(box(units(5), odd, odd, odd, units(6)), 0, 60), Out{5, 59, 60, 60, 6}},
			question{"width, then Least", bounded(box(units(5), odd, odd, units(3), units(6)), 190, 999), Out{5, -14, 190, 3, 6}},
		)
	}
}

// taker is a box with a given width in which one of the five takes all of the rest, and all else is 0.
type taker struct {
	name string
	in   In
	took func(n int64) Out
}

func takers() []taker {
	zero := units(0)
	left, right := func(n int64) Out { return Out{Left: n} }, func(n int64) Out { return Out{Right: n} }
	return []taker{
		{"Left", empty(0, auto, zero, zero, zero, zero), left},
		{"Left, Turned, beside Behind", turned(empty(0, auto, zero, zero, zero, auto)), left},
		{"Left, replaced", rtl(empty(0, zero, zero, zero, zero, zero)), left},
		{"MarginL", empty(0, zero, auto, zero, zero, zero), func(n int64) Out { return Out{MarginL: n} }},
		{"MarginR", empty(0, zero, zero, zero, auto, zero), func(n int64) Out { return Out{MarginR: n} }},
		{"Right", empty(0, zero, zero, zero, zero, auto), right},
		{"Right, beside Static", empty(0, auto, zero, zero, zero, auto), right},
		{"Right, replaced", empty(0, zero, zero, zero, zero, zero), right},
	}
}

// with is the box with a base, a width and bounds; what the taker takes is the base without the width that is tried last.
func (k taker) with(base, wide, least, most int64) In {
	in := bounded(k.in, least, most)
	in.Base, in.Wide = base, units(wide)
	return in
}

// yes asks for a result of rest beside wide, and no for false.
func (k taker) yes(t *testing.T, in In, wide, rest int64) {
	t.Helper()
	want := k.took(rest)
	want.Wide = wide
	check(t, question{k.name, in, want})
}

func (k taker) no(t *testing.T, in In) {
	t.Helper()
	checkFalseOnce(t, k.name, in)
}

// A result at the limit and one beyond it, for the width that is tried first, also where a bound would replace that.
func TestFirstResultFits(t *testing.T) {
	at := maxUnit
	for _, k := range takers() {
		k.yes(t, k.with(at, 0, -at, at), 0, at)
		k.yes(t, k.with(at-1, -1, -at, at), -1, at)
		k.no(t, k.with(at, -1, -at, at))
		k.no(t, k.with(at, -1, 0, at))
		k.no(t, k.with(at, -at, -at, at))
		k.yes(t, k.with(-at, 0, -at, at), 0, -at)
		k.yes(t, k.with(1-at, 1, -at, at), 1, -at)
		k.no(t, k.with(-at, 1, -at, at))
		k.no(t, k.with(-at, 1, -at, 0))
		k.no(t, k.with(-at, at, -at, at))
	}
}

// The same for the widths that are tried later.
func TestLaterResultFits(t *testing.T) {
	at := maxUnit
	for _, k := range takers() {
		// With Most.
		k.yes(t, k.with(at, 1, -at, 0), 0, at)
		k.yes(t, k.with(at-1, 0, -at, -1), -1, at)
		k.no(t, k.with(at, 0, -at, -1))
		// With Least.
		k.yes(t, k.with(-at, -1, 0, at), 0, -at)
		k.yes(t, k.with(1-at, 0, 1, at), 1, -at)
		k.no(t, k.with(-at, 0, 1, at))
		// With Most, where Least would fit; and with Least after Most.
		k.yes(t, k.with(at-1, 0, 0, -1), 0, at-1)
		k.no(t, k.with(at, 0, 0, -1))
		k.yes(t, k.with(3-at, 3, 3, 2), 3, -at)
		k.no(t, k.with(2-at, 2, 3, 1))
	}
}

// The width as the rest, which only the first one that is tried can be.
func TestWidthFits(t *testing.T) {
	at, zero := maxUnit, units(0)
	wide := func(base, left, right, least, most int64) In {
		return bounded(empty(base, units(left), auto, auto, auto, units(right)), least, most)
	}
	checkAll(t,
		question{"at the limit", wide(at-1, -1, 0, -at, at), Out{-1, 0, at, 0, 0}},
		question{"at the negative limit", wide(1-at, 0, 1, -at, at), Out{0, 0, -at, 0, 1}},
		question{"at the limit by the margins", empty(at-2, zero, units(-1), auto, units(-1), zero), Out{0, -1, at, -1, 0}},
		question{"at the limit by the surroundings", around(-1, empty(at-1, zero, auto, auto, auto, zero)), Out{Wide: at}},
		question{"at the limit, then Most", wide(at-1, 0, -1, 0, 10), Out{0, at/2 - 5, 10, at/2 - 5, -1}},
	)
	checkRTL(t, "at the negative limit, then Least", wide(1-at, 0, 1, -at+1, at), Out{0, 0, 1 - at, -1, 1}, Out{0, -1, 1 - at, 0, 1})
	checkFalse(t, "one beyond", wide(at, -1, 0, -at, at))
	checkFalse(t, "one beyond on the other side", wide(-at, 0, 1, -at, at))
	checkFalse(t, "one beyond by the margins", empty(at-1, zero, units(-1), auto, units(-1), zero))
	checkFalse(t, "one beyond by the surroundings", around(-1, empty(at, zero, auto, auto, auto, zero)))
	checkFalse(t, "one beyond, then Most", wide(at, 0, -1, 0, 10))
	checkFalse(t, "one beyond, then Least", wide(-at, 0, 1, -at, at))
	checkFalse(t, "far beyond", around(-at, wide(at, -at, -at, 0, 10)))
	checkFalse(t, "far beyond on the other side", around(at, wide(-at, at, at, 0, 10)))
}

// The preferred width fits, but what it leaves may not.
func TestRestBesideWant(t *testing.T) {
	at, zero := maxUnit, units(0)
	in := func(base, want int64, left, right size.Size) In {
		in := empty(base, left, auto, auto, auto, right)
		in.Want = want
		return in
	}
	checkAll(t,
		question{"left", in(at-1, -1, auto, zero), Out{at, 0, -1, 0, 0}},
		question{"right", in(1-at, 1, zero, auto), Out{0, 0, 1, 0, -at}},
	)
	checkTurned(t, "both", in(at-1, -1, auto, auto), Out{0, 0, -1, 0, at}, Out{at, 0, -1, 0, 0})
	checkFalse(t, "left", in(at, -1, auto, zero))
	checkFalse(t, "right", in(-at, 1, zero, auto))
	checkFalse(t, "both", in(at, -1, auto, auto))
	far := empty(at, auto, auto, auto, auto, auto)
	far.Static, far.Behind = -1, -1
	checkFalse(t, "beside Static and Behind", far)
}

// Each half of a rest has to fit, not the rest; a negative rest goes to one margin as a whole.
func TestHalvesFit(t *testing.T) {
	at, zero := maxUnit, units(0)
	in := func(base, n, wide int64) In { return around(n, empty(base, zero, auto, units(wide), auto, zero)) }
	checkAll(t,
		question{"both at the limit", in(at, -at, 0), Out{0, at, 0, at, 0}},
		question{"both at the limit with Most", bounded(in(at-1, -at, 0), -at, -1), Out{0, at, -1, at, 0}},
		question{"left one below the limit", in(at, -at+1, 0), Out{0, at - 1, 0, at, 0}},
	)
	checkRTL(t, "negative", in(0, 0, at), Out{0, 0, at, -at, 0}, Out{0, -at, at, 0, 0})
	checkFalse(t, "right one beyond", in(at, -at, -1))
	checkFalse(t, "right one beyond with Most", bounded(in(at, -at, 0), -at, -1))
	checkFalse(t, "both beyond", in(at, -at, -2))
	checkFalse(t, "both far beyond", in(at, -at, -at))
	checkFalse(t, "negative, one beyond", in(-1, 0, at))
	checkFalse(t, "negative, one beyond with Least", bounded(in(-1, 0, 0), at, at))
	checkFalse(t, "negative, both halves within", in(-at, 0, at))
}

// All of int64 in every place at once.
func TestEndsOfInt64(t *testing.T) {
	ends := []int64{minInt, maxInt}
	for i := range 1 << 12 {
		n := func(bit int) int64 { return ends[i>>bit&1] }
		in := In{
			Base: n(0), Left: units(n(1)), MarginL: units(n(2)), Wide: units(n(3)), MarginR: units(n(4)), Right: units(n(5)),
			Around: n(6), Want: n(7), Static: n(8), Behind: n(9), Least: n(10), Most: n(11),
		}
		checkFalse(t, "ends", in)
		for _, s := range []*size.Size{&in.Left, &in.MarginL, &in.Wide, &in.MarginR, &in.Right} {
			s.Auto = true
		}
		checkFalse(t, "ends, all auto", in)
		in.Base, in.Around, in.Want, in.Static, in.Behind = 200, 10, 30, 20, 15
		if in.Least == minInt && in.Most == maxInt {
			checkTurned(t, "bounds at the ends", in, Out{20, 0, 30, 0, 140}, Out{145, 0, 30, 0, 15})
		} else {
			checkFalse(t, "ends where the numbers fit", in)
		}
	}
}
