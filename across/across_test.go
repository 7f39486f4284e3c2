package across

import (
	"math"
	"math/big"
	"testing"

	"decoupage/api"
	"decoupage/size"
)

const (
	maxUnit = int64(api.MaxUnit)
	minInt  = int64(math.MinInt64)
	maxInt  = int64(math.MaxInt64)
)

var auto = size.Size{Auto: true}

func units(n int64) size.Size { return size.Size{N: n} }

// box is a box without bounds that matter.
func box(base int64, left, wide, right size.Size, around int64) In {
	return In{Base: base, Left: left, Wide: wide, Right: right, Around: around, Least: -maxUnit, Most: maxUnit}
}

// bounded is the same box with these bounds.
func bounded(in In, least, most int64) In {
	in.Least, in.Most = least, most
	return in
}

// rtl is the same box in the other direction.
func rtl(in In) In {
	in.RTL = true
	return in
}

type question struct {
	name string
	in   In
	want Out
}

// check asks each question, whose answer is true.
func check(t *testing.T, all []question) {
	t.Helper()
	for _, q := range all {
		if o, ok := Solve(q.in); !ok || o != q.want {
			t.Errorf("%s: %+v, %t instead of %+v", q.name, o, ok, q.want)
		}
	}
}

// checkBoth asks each question in both directions, which have the same answer.
func checkBoth(t *testing.T, all []question) {
	t.Helper()
	for _, q := range all {
		check(t, []question{q, {q.name + ", RTL", rtl(q.in), q.want}})
	}
}

// checkFalse asks a question in both directions: the answer is false, and nothing stands beside that.
func checkFalse(t *testing.T, name string, in In) {
	t.Helper()
	for _, in := range []In{in, rtl(in)} {
		if o, ok := Solve(in); ok || o != (Out{}) {
			t.Errorf("%s: %+v gives %+v, %t", name, in, o, ok)
		}
	}
}

func TestExample(t *testing.T) {
	checkBoth(t, []question{{"width 40 of 100", box(100, auto, units(40), auto, 0), Out{30, 40, 30}}})
}

// The eight patterns of what is auto. In the direction from left to right the right margin gives way, and in the other one the left margin; where something is auto and there is room, the direction has no influence.
func TestPatterns(t *testing.T) {
	three, forty, seven := units(3), units(40), units(7)
	checkBoth(t, []question{
		{"all", box(100, auto, auto, auto, 10), Out{0, 90, 0}},
		{"left and width", box(100, auto, auto, seven, 10), Out{0, 83, 7}},
		{"width and right", box(100, three, auto, auto, 10), Out{3, 87, 0}},
		{"width", box(100, three, auto, seven, 10), Out{3, 80, 7}},
		{"left and right", box(100, auto, forty, auto, 10), Out{25, 40, 25}},
		{"left", box(100, auto, forty, seven, 10), Out{43, 40, 7}},
		{"right", box(100, three, forty, auto, 10), Out{3, 40, 47}},
	})
	none := box(100, three, forty, seven, 10)
	check(t, []question{
		{"none", none, Out{3, 40, 47}},
		{"none, RTL", rtl(none), Out{43, 40, 7}},
	})
}

func TestAutoWidth(t *testing.T) {
	checkBoth(t, []question{
		{"margins auto", box(100, auto, auto, auto, 0), Out{0, 100, 0}},
		{"margins given", box(100, units(20), auto, units(30), 5), Out{20, 45, 30}},
		{"margins negative", box(100, units(-20), auto, units(-30), 5), Out{-20, 145, -30}},
		{"left auto, right negative", box(100, auto, auto, units(-30), 5), Out{0, 125, -30}},
		{"nothing left", box(100, units(60), auto, units(40), 0), Out{60, 0, 40}},
		{"one too little", box(100, units(60), auto, units(40), 1), Out{60, -1, 40}},
		{"far too little", box(100, units(300), auto, units(200), 50), Out{300, -450, 200}},
		{"far too little, with margins auto", box(100, auto, auto, auto, 250), Out{0, -150, 0}},
		{"far too little, with left auto", box(100, auto, auto, units(200), 50), Out{0, -150, 200}},
		{"far too little, with right auto", box(100, units(200), auto, auto, 50), Out{200, -150, 0}},
		{"Base of 0", box(0, auto, auto, auto, 0), Out{}},
		{"Base negative", box(-9, auto, auto, auto, 2), Out{0, -11, 0}},
		{"Around negative", box(100, auto, auto, auto, -7), Out{0, 107, 0}},
	})
}

// All together one less than Base, exactly as wide, and one more, which is where margins are no longer auto.
func TestGivenWidthAroundBase(t *testing.T) {
	checkBoth(t, []question{
		{"both auto, one less", box(100, auto, units(89), auto, 10), Out{0, 89, 1}},
		{"both auto, exactly", box(100, auto, units(90), auto, 10), Out{0, 90, 0}},
		{"left auto, one less", box(100, auto, units(82), units(7), 10), Out{1, 82, 7}},
		{"left auto, exactly", box(100, auto, units(83), units(7), 10), Out{0, 83, 7}},
		{"right auto, one less", box(100, units(3), units(86), auto, 10), Out{3, 86, 1}},
		{"right auto, exactly", box(100, units(3), units(87), auto, 10), Out{3, 87, 0}},
		{"none auto, exactly", box(100, units(3), units(80), units(7), 10), Out{3, 80, 7}},
	})
	for _, c := range []struct {
		name     string
		in       In
		ltr, rtl Out
	}{
		{"both auto, one more", box(100, auto, units(91), auto, 10), Out{0, 91, -1}, Out{-1, 91, 0}},
		{"left auto, one more", box(100, auto, units(84), units(7), 10), Out{0, 84, 6}, Out{-1, 84, 7}},
		{"right auto, one more", box(100, units(3), units(88), auto, 10), Out{3, 88, -1}, Out{2, 88, 0}},
		{"none auto, one less", box(100, units(3), units(79), units(7), 10), Out{3, 79, 8}, Out{4, 79, 7}},
		{"none auto, one more", box(100, units(3), units(81), units(7), 10), Out{3, 81, 6}, Out{2, 81, 7}},
		{"both auto, far more", box(100, auto, units(391), auto, 10), Out{0, 391, -301}, Out{-301, 391, 0}},
		{"left auto, far more", box(100, auto, units(391), units(7), 10), Out{0, 391, -301}, Out{-308, 391, 7}},
		{"right auto, far more", box(100, units(3), units(391), auto, 10), Out{3, 391, -304}, Out{-301, 391, 0}},
		{"none auto, far more", box(100, units(3), units(391), units(7), 10), Out{3, 391, -304}, Out{-308, 391, 7}},
	} {
		check(t, []question{{c.name, c.in, c.ltr}, {c.name + ", RTL", rtl(c.in), c.rtl}})
	}
}

// Margins and surroundings count, each with its sign, for whether all exceeds Base.
func TestExceedsBase(t *testing.T) {
	checkBoth(t, []question{
		{"a width greater than Base, with a negative margin", box(100, auto, units(130), units(-40), 0), Out{10, 130, -40}},
		{"the same on the other side", box(100, units(-40), units(130), auto, 0), Out{-40, 130, 10}},
		{"a width greater than Base, with Around negative", box(100, auto, units(130), auto, -40), Out{5, 130, 5}},
		{"a negative width", box(100, auto, units(-40), auto, 10), Out{65, -40, 65}},
		{"a negative Base", box(-100, auto, units(-140), auto, 10), Out{15, -140, 15}},
	})
	left, right := box(100, units(60), units(20), auto, 21), box(100, auto, units(20), units(60), 21)
	check(t, []question{
		{"by the left margin", left, Out{60, 20, -1}},
		{"by the left margin, RTL", rtl(left), Out{59, 20, 0}},
		{"by the right margin", right, Out{0, 20, 59}},
		{"by the right margin, RTL", rtl(right), Out{-1, 20, 60}},
	})
}

// Half of the rest is rounded down, and goes to the left in both directions.
func TestHalves(t *testing.T) {
	checkBoth(t, []question{
		{"0", box(40, auto, units(40), auto, 0), Out{0, 40, 0}},
		{"1", box(41, auto, units(40), auto, 0), Out{0, 40, 1}},
		{"2", box(42, auto, units(40), auto, 0), Out{1, 40, 1}},
		{"3", box(43, auto, units(40), auto, 0), Out{1, 40, 2}},
		{"61", box(101, auto, units(40), auto, 0), Out{30, 40, 31}},
		{"one less than the limit", box(maxUnit-1, auto, units(0), auto, 0), Out{maxUnit/2 - 1, 0, maxUnit / 2}},
		{"the limit", box(maxUnit, auto, units(0), auto, 0), Out{maxUnit / 2, 0, maxUnit / 2}},
		{"greater than the limit, odd", box(maxUnit, auto, units(0), auto, 1-maxUnit), Out{maxUnit - 1, 0, maxUnit}},
		{"twice the limit", box(maxUnit, auto, units(0), auto, -maxUnit), Out{maxUnit, 0, maxUnit}},
	})
}

// A negative rest is never halved: margins are no longer auto there.
func TestNegativeRest(t *testing.T) {
	for _, rest := range []int64{-1, -2, -3, -61, -60, 1 - maxUnit, -maxUnit} {
		in := box(0, auto, units(0), auto, -rest)
		check(t, []question{{"negative", in, Out{0, 0, rest}}, {"negative, RTL", rtl(in), Out{rest, 0, 0}}})
	}
}

// Where no margin is auto, the one that is given on the side of the direction's end has no influence on the result.
func TestDirection(t *testing.T) {
	for _, given := range []int64{-maxUnit, -301, -1, 0, 1, 7, 45, 301, maxUnit} {
		check(t, []question{
			{"right", box(100, units(3), units(40), units(given), 10), Out{3, 40, 47}},
			{"left, RTL", rtl(box(100, units(given), units(40), units(7), 10)), Out{43, 40, 7}},
		})
	}
}

func TestAboveMost(t *testing.T) {
	checkBoth(t, []question{
		{"equal to Most", bounded(box(100, auto, auto, auto, 10), 0, 90), Out{0, 90, 0}},
		{"one above Most, all auto: the margins are not 0 any more", bounded(box(100, auto, auto, auto, 10), 0, 89), Out{0, 89, 1}},
		{"above Most, all auto", bounded(box(100, auto, auto, auto, 10), 0, 60), Out{15, 60, 15}},
		{"above Most, left auto", bounded(box(100, auto, auto, units(7), 10), 0, 60), Out{23, 60, 7}},
		{"above Most, right auto", bounded(box(100, units(3), auto, auto, 10), 0, 60), Out{3, 60, 27}},
		{"a given width equal to Most", bounded(box(100, auto, units(40), auto, 0), 0, 40), Out{30, 40, 30}},
		{"a given width above Most", bounded(box(100, auto, units(41), auto, 0), 0, 40), Out{30, 40, 30}},
		{"a given width above Most and Base", bounded(box(100, auto, units(400), auto, 0), 0, 40), Out{30, 40, 30}},
		{"a Most of 0", bounded(box(100, auto, auto, auto, 10), 0, 0), Out{45, 0, 45}},
		{"a Most below 0", bounded(box(100, auto, auto, auto, 10), -9, -6), Out{48, -6, 48}},
	})
	none := bounded(box(100, units(3), auto, units(7), 10), 0, 60)
	check(t, []question{
		{"above Most, no margin auto", none, Out{3, 60, 27}},
		{"above Most, no margin auto, RTL", rtl(none), Out{23, 60, 7}},
	})
}

func TestBelowLeast(t *testing.T) {
	checkBoth(t, []question{
		{"equal to Least", bounded(box(100, auto, auto, auto, 10), 90, 999), Out{0, 90, 0}},
		{"an auto width below 0, equal to Least", bounded(box(100, units(60), auto, units(40), 1), -1, 999), Out{60, -1, 40}},
		{"a given width equal to Least", bounded(box(100, auto, units(40), auto, 0), 40, 999), Out{30, 40, 30}},
		{"a given width below Least", bounded(box(100, auto, units(39), auto, 0), 40, 999), Out{30, 40, 30}},
		{"a negative width below a Least of 0", bounded(box(100, auto, units(-9), auto, 0), 0, 999), Out{50, 0, 50}},
	})
	for _, c := range []struct {
		name     string
		in       In
		ltr, rtl Out
	}{
		{"one below Least, all auto", bounded(box(100, auto, auto, auto, 10), 91, 999), Out{0, 91, -1}, Out{-1, 91, 0}},
		{"below Least, left auto", bounded(box(100, auto, auto, units(7), 10), 91, 999), Out{0, 91, -1}, Out{-8, 91, 7}},
		{"below Least, right auto", bounded(box(100, units(3), auto, auto, 10), 91, 999), Out{3, 91, -4}, Out{-1, 91, 0}},
		{"below Least, no margin auto", bounded(box(100, units(3), auto, units(7), 10), 91, 999), Out{3, 91, -4}, Out{-8, 91, 7}},
		{"a negative auto width below a Least of 0", bounded(box(100, units(70), auto, units(50), 0), 0, 999), Out{70, 0, 30}, Out{50, 0, 50}},
		{"a given width below a Least that is greater than Base", bounded(box(100, auto, units(9), auto, 0), 140, 999), Out{0, 140, -40}, Out{-40, 140, 0}},
	} {
		check(t, []question{{c.name, c.in, c.ltr}, {c.name + ", RTL", rtl(c.in), c.rtl}})
	}
}

// Where Least is above Most, Least wins, whatever the width is.
func TestLeastAboveMost(t *testing.T) {
	for _, wide := range []size.Size{auto, units(10), units(20), units(25), units(30), units(31), units(500)} {
		none := bounded(box(100, units(3), wide, units(7), 10), 30, 20)
		check(t, []question{{"none auto", none, Out{3, 30, 57}}, {"none auto, RTL", rtl(none), Out{53, 30, 7}}})
		checkBoth(t, []question{
			{"both auto", bounded(box(100, auto, wide, auto, 10), 30, 20), Out{30, 30, 30}},
			{"left auto", bounded(box(100, auto, wide, units(7), 10), 30, 20), Out{53, 30, 7}},
			{"right auto", bounded(box(100, units(3), wide, auto, 10), 30, 20), Out{3, 30, 57}},
		})
	}
}

// Each number that is given, at both limits and beyond them, in a box whose other numbers are 0 or auto.
func TestGivenFits(t *testing.T) {
	for _, c := range []struct {
		name string
		of   func(n int64) In
		want func(n int64) Out
	}{
		{"Base", func(n int64) In { return box(n, auto, auto, auto, 0) }, func(n int64) Out { return Out{0, n, 0} }},
		{"Around", func(n int64) In { return box(0, auto, auto, auto, n) }, func(n int64) Out { return Out{0, -n, 0} }},
		{"Left", func(n int64) In { return box(0, units(n), auto, auto, 0) }, func(n int64) Out { return Out{n, -n, 0} }},
		{"Right", func(n int64) In { return box(0, auto, auto, units(n), 0) }, func(n int64) Out { return Out{0, -n, n} }},
		{"Wide, left given", func(n int64) In { return box(0, units(0), units(n), auto, 0) }, func(n int64) Out { return Out{0, n, -n} }},
		{"Wide, right given", func(n int64) In { return rtl(box(0, auto, units(n), units(0), 0)) }, func(n int64) Out { return Out{-n, n, 0} }},
	} {
		for _, n := range []int64{maxUnit, maxUnit - 1, -maxUnit, 1 - maxUnit} {
			check(t, []question{{c.name, c.of(n), c.want(n)}})
		}
		for _, n := range []int64{maxUnit + 1, -maxUnit - 1, minInt, minInt + 1, maxInt, maxInt - 1} {
			checkFalse(t, c.name, c.of(n))
		}
	}
}

// A number that is given and does not fit gives false also where all that results would fit.
func TestGivenFitsForItself(t *testing.T) {
	at, beyond := maxUnit, maxUnit+1
	checkFalse(t, "Base, with a width at the limit", box(beyond, units(1), auto, auto, 0))
	checkFalse(t, "Base, with a width at the negative limit", box(-beyond, auto, auto, units(-1), 0))
	checkFalse(t, "Base, with margins far within", box(beyond, auto, units(at), auto, 0))
	checkFalse(t, "Around, with a width at the negative limit", box(1, auto, auto, auto, beyond))
	checkFalse(t, "Around, with a width at the limit", box(-1, auto, auto, auto, -beyond))
	checkFalse(t, "Around, with margins far within", box(0, auto, units(10), auto, -beyond))
	for _, n := range []int64{beyond, -beyond, minInt, minInt + 1, maxInt - 1, maxInt} {
		// In one direction the margin is replaced, and in the other one it is a result.
		checkFalse(t, "left", box(100, units(n), units(10), units(0), 0))
		checkFalse(t, "right", box(100, units(0), units(10), units(n), 0))
		checkFalse(t, "left, far to the other side", box(100, units(n), units(10), auto, 0))
		checkFalse(t, "right, far to the other side", box(100, auto, units(10), units(n), 0))
		// A bound that would replace the width is not tried.
		checkFalse(t, "width", bounded(box(100, auto, units(n), auto, 0), 10, 10))
		checkFalse(t, "width, with no margin auto", bounded(box(100, units(1), units(n), units(1), 0), 10, 10))
	}
	for _, n := range []int64{beyond, -beyond, minInt + 1, maxInt} {
		checkFalse(t, "Base and Around, which together are 0", box(n, auto, auto, auto, n))
		checkFalse(t, "Base and width, which together are 0", box(n, auto, units(n), auto, 0))
		checkFalse(t, "Around and left, which together are 0", box(0, units(-n), auto, auto, n))
	}
}

// The number of a size that is auto has no influence.
func TestNumberOfAuto(t *testing.T) {
	for _, n := range []int64{0, 1, -1, 50, -50, maxUnit, -maxUnit, maxUnit + 1, -maxUnit - 1, minInt, maxInt} {
		odd := size.Size{Auto: true, N: n}
		checkBoth(t, []question{
			{"all", box(100, odd, odd, odd, 10), Out{0, 90, 0}},
			{"left and width", box(100, odd, odd, units(7), 10), Out{0, 83, 7}},
			{"width and right", box(100, units(3), odd, odd, 10), Out{3, 87, 0}},
			{"width", box(100, units(3), odd, units(7), 10), Out{3, 80, 7}},
			{"left and right", box(100, odd, units(40), odd, 10), Out{25, 40, 25}},
			{"left", box(100, odd, units(40), units(7), 10), Out{43, 40, 7}},
			{"right", box(100, units(3), units(40), odd, 10), Out{3, 40, 47}},
			{"above Most", bounded(box(100, odd, odd, odd, 10), 0, 60), Out{15, 60, 15}},
			{"Least above Most", bounded(box(100, odd, odd, odd, 10), 30, 20), Out{30, 30, 30}},
		})
		over := box(100, odd, units(91), odd, 10)
		check(t, []question{{"no room", over, Out{0, 91, -1}}, {"no room, RTL", rtl(over), Out{-1, 91, 0}}})
	}
}

// A result at the limit and one beyond it, for the width that is tried first.
func TestResultFits(t *testing.T) {
	at, beyond := maxUnit, maxUnit+1
	for _, c := range []struct {
		name string
		// of is a box with a result of n.
		of   func(n int64) In
		want func(n int64) Out
	}{
		{"width", func(n int64) In { return box(at, auto, auto, auto, at-n) }, func(n int64) Out { return Out{0, n, 0} }},
		{"width, by the left margin", func(n int64) In { return box(at, units(at-n), auto, auto, 0) }, func(n int64) Out { return Out{at - n, n, 0} }},
		{"width, by the right margin", func(n int64) In { return box(at, auto, auto, units(at-n), 0) }, func(n int64) Out { return Out{0, n, at - n} }},
		{"left", func(n int64) In { return box(at, auto, units(0), units(at-n), 0) }, func(n int64) Out { return Out{n, 0, at - n} }},
		{"right", func(n int64) In { return box(at, units(at-n), units(0), auto, 0) }, func(n int64) Out { return Out{at - n, 0, n} }},
		{"right, replaced", func(n int64) In { return box(at, units(0), units(at-n), units(5), 0) }, func(n int64) Out { return Out{0, at - n, n} }},
		{"left, replaced", func(n int64) In { return rtl(box(at, units(5), units(at-n), units(0), 0)) }, func(n int64) Out { return Out{n, at - n, 0} }},
	} {
		check(t, []question{{c.name + " at the limit", c.of(at), c.want(at)}})
		in := c.of(beyond)
		if o, ok := Solve(in); ok || o != (Out{}) {
			t.Errorf("%s one beyond: %+v gives %+v, %t", c.name, in, o, ok)
		}
	}
}

// The same below 0. A rest that is negative goes to one margin as a whole.
func TestNegativeResultFits(t *testing.T) {
	at := maxUnit
	check(t, []question{
		{"width", box(1-at, auto, auto, auto, 1), Out{0, -at, 0}},
		{"both auto", box(0, auto, units(at), auto, 0), Out{0, at, -at}},
		{"both auto, RTL", rtl(box(0, auto, units(at), auto, 0)), Out{-at, at, 0}},
		{"none auto", box(0, units(0), units(at), units(5), 0), Out{0, at, -at}},
		{"none auto, RTL", rtl(box(0, units(5), units(at), units(0), 0)), Out{-at, at, 0}},
	})
	checkFalse(t, "width", box(1-at, auto, auto, auto, 2))
	checkFalse(t, "both auto", box(-1, auto, units(at), auto, 0))
	checkFalse(t, "none auto", box(-1, units(0), units(at), units(0), 0))
	checkFalse(t, "both auto, with a rest of twice the limit", box(-at, auto, units(at), auto, 0))
	checkFalse(t, "both auto, far beyond", box(-at, auto, units(at), auto, at))
	checkFalse(t, "all given, far beyond", box(-at, units(at), units(at), units(at), at))
}

// Each half of a rest has to fit, not the rest.
func TestHalvesFit(t *testing.T) {
	at := maxUnit
	checkBoth(t, []question{{"both", box(at, auto, units(0), auto, -at), Out{at, 0, at}}})
	checkFalse(t, "right one beyond", box(at, auto, units(-1), auto, -at))
	checkFalse(t, "both beyond", box(at, auto, units(-2), auto, -at))
	checkFalse(t, "both far beyond", box(at, auto, units(-at), auto, -at))
}

// A result that does not fit gives false for each width that is tried, also for one that a bound would replace. The far box has such a result; in the near box all results just fit.
func TestEachTryFits(t *testing.T) {
	at, zero := maxUnit, units(0)
	for _, c := range []struct {
		name      string
		far, near In
		ltr, rtl  Out
	}{
		{"an auto width, then Most",
			bounded(box(at, auto, auto, auto, -1), 0, 10), bounded(box(at, auto, auto, auto, 0), 0, 10), Out{at/2 - 5, 10, at/2 - 5}, Out{at/2 - 5, 10, at/2 - 5}},
		{"an auto width, then Least",
			bounded(box(0, units(at), auto, units(1), 0), 0, 10), bounded(box(0, units(at), auto, zero, 0), 0, 10), Out{at, 0, -at}, Out{0, 0, 0}},
		{"a margin, then Most",
			bounded(box(-at, zero, units(1), zero, 0), -9, 0), bounded(box(1-at, zero, units(1), zero, 0), -9, 0), Out{0, 0, 1 - at}, Out{1 - at, 0, 0}},
		{"a margin, then Least",
			bounded(box(at, zero, units(-1), zero, 0), 0, 9), bounded(box(at-1, zero, units(-1), zero, 0), 0, 9), Out{0, 0, at - 1}, Out{at - 1, 0, 0}},
		{"a margin with Most",
			bounded(box(at, zero, auto, zero, 0), -9, -1), bounded(box(at-1, zero, auto, zero, 0), -9, -1), Out{0, -1, at}, Out{at, -1, 0}},
		{"a margin with Most, then Least",
			bounded(box(at, zero, auto, zero, 0), 0, -1), bounded(box(at-1, zero, auto, zero, 0), 0, -1), Out{0, 0, at - 1}, Out{at - 1, 0, 0}},
		{"a margin with Least",
			bounded(box(-at, zero, auto, zero, 0), 1, 9), bounded(box(1-at, zero, auto, zero, 0), 1, 9), Out{0, 1, -at}, Out{-at, 1, 0}},
		{"a margin with Least, after Most",
			bounded(box(9-at, zero, units(9), zero, 0), 10, 5), bounded(box(10-at, zero, units(9), zero, 0), 10, 5), Out{0, 10, -at}, Out{-at, 10, 0}},
		{"a half with Most",
			bounded(box(at, auto, zero, auto, -at), -9, -1), bounded(box(at-1, auto, zero, auto, -at), -9, -1), Out{at, -1, at}, Out{at, -1, at}},
	} {
		checkFalse(t, c.name, c.far)
		check(t, []question{{c.name, c.near, c.ltr}, {c.name + ", RTL", rtl(c.near), c.rtl}})
	}
}

// A bound that does not fit is a width that does not fit, but only where it is tried.
func TestBoundFits(t *testing.T) {
	at := maxUnit
	in := box(100, auto, units(40), auto, 0)
	great, little := []int64{at + 1, at + 2, maxInt - 1, maxInt}, []int64{-at - 1, -at - 2, minInt + 1, minInt}
	for i := range great {
		checkBoth(t, []question{
			{"Most not tried", bounded(in, 0, great[i]), Out{30, 40, 30}},
			{"Least not tried", bounded(in, little[i], 90), Out{30, 40, 30}},
			{"none tried", bounded(in, little[i], great[i]), Out{30, 40, 30}},
			{"Least tried, Most not", bounded(in, 50, great[i]), Out{25, 50, 25}},
			{"Most tried, Least not", bounded(in, little[i], 30), Out{35, 30, 35}},
		})
		checkFalse(t, "Least tried", bounded(in, great[i], 90))
		checkFalse(t, "Least tried, as great as Most", bounded(in, great[i], great[i]))
		checkFalse(t, "Least tried after Most", bounded(in, great[i], 30))
		checkFalse(t, "Most tried", bounded(in, -9, little[i]))
		checkFalse(t, "Most tried, as little as Least", bounded(in, little[i], little[i]))
		checkFalse(t, "Most tried, but not Least", bounded(in, 50, little[i]))
		checkFalse(t, "Most tried", bounded(in, great[i], little[i]))
		// The margins would be beyond int64.
		checkFalse(t, "Least tried for an auto width", bounded(box(at, auto, auto, auto, at), great[i], maxInt))
		checkFalse(t, "Most tried for an auto width", bounded(box(at, auto, auto, auto, -at+1), 0, little[i]))
		checkFalse(t, "Most tried with margins given", bounded(box(at, units(-at), auto, units(-at), -at), 0, little[i]))
	}
	checkBoth(t, []question{
		{"Most at the limit", bounded(box(at, auto, auto, auto, 0), 0, at), Out{0, at, 0}},
		{"Least at the limit", bounded(box(at, auto, units(5), auto, 0), at, at), Out{0, at, 0}},
		{"Most at the negative limit", bounded(box(-at, auto, units(5-at), auto, 0), -at, -at), Out{0, -at, 0}},
		{"Least at the negative limit", bounded(box(-at, auto, auto, auto, 0), -at, at), Out{0, -at, 0}},
	})
}

// All of int64 in every place at once.
func TestEndsOfInt64(t *testing.T) {
	ends := []int64{minInt, maxInt}
	for i := range 128 {
		n := func(bit int) int64 { return ends[i>>bit&1] }
		in := In{Base: n(0), Left: units(n(1)), Wide: units(n(2)), Right: units(n(3)), Around: n(4), Least: n(5), Most: n(6)}
		checkFalse(t, "ends", in)
		in.Left.Auto, in.Wide.Auto, in.Right.Auto = true, true, true
		checkFalse(t, "ends, all auto", in)
		in.Base, in.Around = 100, 10
		if in.Least == minInt && in.Most == maxInt {
			checkBoth(t, []question{{"ends", in, Out{0, 90, 0}}})
		} else {
			checkFalse(t, "ends where Base and Around fit", in)
		}
	}
}

// exact is a margin or a width without limits; it is nil as long as it is auto.
type exact = *big.Int

func given(s size.Size) exact {
	if s.Auto {
		return nil
	}
	return big.NewInt(s.N)
}

// or0 is x, and 0 for auto.
func or0(x exact) exact {
	if x == nil {
		return new(big.Int)
	}
	return x
}

// minus is n without all of l.
func minus(n exact, l ...exact) exact {
	rest := new(big.Int).Set(n)
	for _, x := range l {
		rest.Sub(rest, x)
	}
	return rest
}

// byWidth is the chapter's computation for one width, sentence by sentence.
func byWidth(in In, wide size.Size) [3]exact {
	base, around := big.NewInt(in.Base), big.NewInt(in.Around)
	left, right, width := given(in.Left), given(in.Right), given(wide)
	if width == nil {
		left, right = or0(left), or0(right)
		return [3]exact{left, minus(base, left, around, right), right}
	}
	if minus(base, or0(left), or0(right), around, width).Sign() < 0 {
		left, right = or0(left), or0(right)
	}
	switch {
	case left == nil && right == nil:
		rest := minus(base, around, width)
		// big's Div rounds down for a positive divisor.
		left = new(big.Int).Div(rest, big.NewInt(2))
		right = minus(rest, left)
	case left == nil:
		left = minus(base, around, width, right)
	case right == nil:
		right = minus(base, around, width, left)
	case in.RTL:
		left = minus(base, around, width, right)
	default:
		right = minus(base, around, width, left)
	}
	return [3]exact{left, width, right}
}

// inLimits reports whether each of l is in the range of numbers that fit.
func inLimits(l ...exact) bool {
	for _, x := range l {
		if x != nil && x.CmpAbs(big.NewInt(maxUnit)) > 0 {
			return false
		}
	}
	return true
}

// byHand is the promise: each width that is tried, one after the other.
func byHand(in In) (Out, bool) {
	if !inLimits(big.NewInt(in.Base), big.NewInt(in.Around), given(in.Left), given(in.Wide), given(in.Right)) {
		return Out{}, false
	}
	last := byWidth(in, in.Wide)
	ok := inLimits(last[:]...)
	if ok && last[1].Cmp(big.NewInt(in.Most)) > 0 {
		last = byWidth(in, units(in.Most))
		ok = inLimits(last[:]...)
	}
	if ok && last[1].Cmp(big.NewInt(in.Least)) < 0 {
		last = byWidth(in, units(in.Least))
		ok = inLimits(last[:]...)
	}
	if !ok {
		return Out{}, false
	}
	return Out{last[0].Int64(), last[1].Int64(), last[2].Int64()}, true
}

// choice is what questions are made of: each combination of these.
type choice struct {
	base, around, least, most []int64
	left, wide, right         []size.Size
}

// compare holds Solve against byHand for each combination in both directions, and counts the answers that are true and that are false.
func (c choice) compare(t *testing.T) (yes, no int) {
	t.Helper()
	all := len(c.base) * len(c.around) * len(c.least) * len(c.most) * len(c.left) * len(c.wide) * len(c.right) * 2
	for i := range all {
		next := func(n int) int {
			k := i % n
			i /= n
			return k
		}
		in := In{
			Base: c.base[next(len(c.base))], Around: c.around[next(len(c.around))],
			Least: c.least[next(len(c.least))], Most: c.most[next(len(c.most))],
			Left: c.left[next(len(c.left))], Wide: c.wide[next(len(c.wide))], Right: c.right[next(len(c.right))],
			RTL: next(2) == 1,
		}
		want, wantOk := byHand(in)
		if o, ok := Solve(in); ok != wantOk || o != want {
			t.Fatalf("%+v: %+v, %t instead of %+v, %t", in, o, ok, want, wantOk)
		}
		if wantOk {
			yes++
		} else {
			no++
		}
	}
	return yes, no
}

// sizes are auto and each of these numbers.
func sizes(l ...int64) []size.Size {
	s := []size.Size{auto}
	for _, n := range l {
		s = append(s, units(n))
	}
	return s
}

func TestSmallNumbersByHand(t *testing.T) {
	yes, no := choice{
		base: []int64{0, 1, 20, 21}, around: []int64{0, 3, -2}, least: []int64{0, 7, -99}, most: []int64{99, 6, 12},
		left: sizes(0, 4, -5, 30), wide: sizes(0, 9, 10, 17, 20, 21, -8), right: sizes(0, 5, -4, 31),
	}.compare(t)
	if yes == 0 || no != 0 {
		t.Errorf("%d with and %d without a result", yes, no)
	}
}

func TestGreatNumbersByHand(t *testing.T) {
	at := maxUnit
	yes, no := choice{
		base: []int64{0, at, 1 - at, -at - 1}, around: []int64{0, at, 2 - at, at + 1}, least: []int64{0, -at, at + 1, minInt}, most: []int64{at, -3, -at - 1, maxInt},
		left: sizes(0, at, -at, at+1), wide: sizes(1, at, -at, maxInt), right: sizes(0, at-1, -at, -at-1),
	}.compare(t)
	if yes == 0 || no == 0 {
		t.Errorf("%d with and %d without a result", yes, no)
	}
}

// The same question is answered alike, whatever is asked in between, and is left as it is.
func TestAlike(t *testing.T) {
	in := bounded(box(100, auto, auto, units(7), 10), 0, 60)
	asked := in
	for i := range int64(20) {
		o, ok := Solve(asked)
		if o != (Out{23, 60, 7}) || !ok || asked != in {
			t.Errorf("%d: %+v gives %+v, %t", i, asked, o, ok)
		}
		Solve(rtl(box(i, units(i), units(3), units(i), i)))
		Solve(box(maxUnit+i, auto, auto, auto, 0))
	}
}
