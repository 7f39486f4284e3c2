package hang

import (
	"testing"

	"decoupage/size"
)

func TestExample(t *testing.T) {
	in := empty(100, auto, auto, auto, auto, auto)
	in.Want, in.Static = 30, 20
	check(t, question{"example", in, Out{Left: 20, Wide: 30, Right: 50}})
	check(t, question{"example, RTL", rtl(in), Out{Left: 20, Wide: 30, Right: 50}})
	check(t, question{"example, Turned", turned(in), Out{Left: 70, Wide: 30, Right: 0}})
}

// The patterns of what is auto in which both distances are: only the direction of the parent matters.
func TestPatternsWithoutDistances(t *testing.T) {
	two, forty, three := units(2), units(40), units(3)
	for _, c := range []struct {
		name                   string
		marginL, wide, marginR size.Size
		ltr, turned            Out
	}{
		{"all", auto, auto, auto, Out{20, 0, 30, 0, 140}, Out{145, 0, 30, 0, 15}},
		{"all but the left margin", two, auto, auto, Out{20, 2, 30, 0, 138}, Out{143, 2, 30, 0, 15}},
		{"all but the right margin", auto, auto, three, Out{20, 0, 30, 3, 137}, Out{142, 0, 30, 3, 15}},
		{"all but the margins", two, auto, three, Out{20, 2, 30, 3, 135}, Out{140, 2, 30, 3, 15}},
		{"all but the width", auto, forty, auto, Out{20, 0, 40, 0, 130}, Out{135, 0, 40, 0, 15}},
		{"distances and right margin", two, forty, auto, Out{20, 2, 40, 0, 128}, Out{133, 2, 40, 0, 15}},
		{"distances and left margin", auto, forty, three, Out{20, 0, 40, 3, 127}, Out{132, 0, 40, 3, 15}},
		{"distances", two, forty, three, Out{20, 2, 40, 3, 125}, Out{130, 2, 40, 3, 15}},
	} {
		checkTurned(t, c.name, box(auto, c.marginL, c.wide, c.marginR, auto), c.ltr, c.turned)
	}
}

// The patterns with one distance or both: no direction matters, unless nothing is auto.
func TestPatternsWithDistances(t *testing.T) {
	five, two, forty, three, six := units(5), units(2), units(40), units(3), units(6)
	checkAll(t,
		question{"left, width and margins", box(auto, auto, auto, auto, six), Out{154, 0, 30, 0, 6}},
		question{"left, width and right margin", box(auto, two, auto, auto, six), Out{152, 2, 30, 0, 6}},
		question{"left, width and left margin", box(auto, auto, auto, three, six), Out{151, 0, 30, 3, 6}},
		question{"left and width", box(auto, two, auto, three, six), Out{149, 2, 30, 3, 6}},

		question{"right, width and margins", box(five, auto, auto, auto, auto), Out{5, 0, 30, 0, 155}},
		question{"right, width and right margin", box(five, two, auto, auto, auto), Out{5, 2, 30, 0, 153}},
		question{"right, width and left margin", box(five, auto, auto, three, auto), Out{5, 0, 30, 3, 152}},
		question{"right and width", box(five, two, auto, three, auto), Out{5, 2, 30, 3, 150}},

		question{"left and margins", box(auto, auto, forty, auto, six), Out{144, 0, 40, 0, 6}},
		question{"left and right margin", box(auto, two, forty, auto, six), Out{142, 2, 40, 0, 6}},
		question{"left and left margin", box(auto, auto, forty, three, six), Out{141, 0, 40, 3, 6}},
		question{"left", box(auto, two, forty, three, six), Out{139, 2, 40, 3, 6}},

		question{"right and margins", box(five, auto, forty, auto, auto), Out{5, 0, 40, 0, 145}},
		question{"right and right margin", box(five, two, forty, auto, auto), Out{5, 2, 40, 0, 143}},
		question{"right and left margin", box(five, auto, forty, three, auto), Out{5, 0, 40, 3, 142}},
		question{"right", box(five, two, forty, three, auto), Out{5, 2, 40, 3, 140}},

		question{"width and margins", box(five, auto, auto, auto, six), Out{5, 0, 179, 0, 6}},
		question{"width and right margin", box(five, two, auto, auto, six), Out{5, 2, 177, 0, 6}},
		question{"width and left margin", box(five, auto, auto, three, six), Out{5, 0, 176, 3, 6}},
		question{"width", box(five, two, auto, three, six), Out{5, 2, 174, 3, 6}},

		question{"margins", box(five, auto, forty, auto, six), Out{5, 69, 40, 70, 6}},
		question{"right margin", box(five, two, forty, auto, six), Out{5, 2, 40, 137, 6}},
		question{"left margin", box(five, auto, forty, three, six), Out{5, 136, 40, 3, 6}},
	)
	checkRTL(t, "none", box(five, two, forty, three, six), Out{5, 2, 40, 3, 140}, Out{139, 2, 40, 3, 6})
}

// Left, the width and Right all auto: the static position, from the side where the parent begins, and the preferred width.
func TestAllAuto(t *testing.T) {
	for _, c := range []struct {
		name                       string
		base, want, static, behind int64
		marginL, marginR           size.Size
		ltr, turned                Out
	}{
		{"margins auto", 100, 30, 20, 15, auto, auto, Out{20, 0, 30, 0, 50}, Out{55, 0, 30, 0, 15}},
		{"margins given", 100, 30, 20, 15, units(2), units(3), Out{20, 2, 30, 3, 45}, Out{50, 2, 30, 3, 15}},
		{"margins negative", 100, 30, 20, 15, units(-7), units(-9), Out{20, -7, 30, -9, 66}, Out{71, -7, 30, -9, 15}},
		{"static position at the sides", 100, 30, 0, 0, auto, auto, Out{0, 0, 30, 0, 70}, Out{70, 0, 30, 0, 0}},
		{"static position beyond the sides", 100, 30, -8, -4, auto, auto, Out{-8, 0, 30, 0, 78}, Out{74, 0, 30, 0, -4}},
		{"static position beyond the other side", 100, 30, 120, 130, auto, auto, Out{120, 0, 30, 0, -50}, Out{-60, 0, 30, 0, 130}},
		{"nothing wanted", 100, 0, 20, 15, auto, auto, Out{20, 0, 0, 0, 80}, Out{85, 0, 0, 0, 15}},
		{"exactly as wide as what is there", 100, 100, 0, 0, auto, auto, Out{0, 0, 100, 0, 0}, Out{0, 0, 100, 0, 0}},
		{"one wider than what is there", 100, 101, 0, 0, auto, auto, Out{0, 0, 101, 0, -1}, Out{-1, 0, 101, 0, 0}},
		{"one wider, with margins given", 100, 96, 0, 0, units(2), units(3), Out{0, 2, 96, 3, -1}, Out{-1, 2, 96, 3, 0}},
		{"far wider, and the static position away", 100, 300, 20, 15, auto, auto, Out{20, 0, 300, 0, -220}, Out{-215, 0, 300, 0, 15}},
		{"a negative width", 100, -30, 20, 15, auto, auto, Out{20, 0, -30, 0, 110}, Out{115, 0, -30, 0, 15}},
		{"no base", 0, 0, 0, 0, auto, auto, Out{}, Out{}},
		{"a negative base", -50, 30, 20, 15, auto, auto, Out{20, 0, 30, 0, -100}, Out{-95, 0, 30, 0, 15}},
	} {
		in := empty(c.base, auto, c.marginL, auto, c.marginR, auto)
		in.Want, in.Static, in.Behind = c.want, c.static, c.behind
		checkTurned(t, c.name, in, c.ltr, c.turned)
	}
}

// None of the three auto and both margins auto: each is half of the rest, the left one rounded down in all directions.
func TestBothMarginsAuto(t *testing.T) {
	for _, c := range []struct{ rest, left, right int64 }{
		{0, 0, 0}, {1, 0, 1}, {2, 1, 1}, {3, 1, 2}, {4, 2, 2}, {60, 30, 30}, {61, 30, 31},
		{maxUnit - 1, maxUnit/2 - 1, maxUnit / 2}, {maxUnit, maxUnit / 2, maxUnit / 2},
	} {
		checkAll(t, question{"by the base", empty(c.rest, units(0), auto, units(0), auto, units(0)), Out{0, c.left, 0, c.right, 0}})
		checkAll(t, question{"by the surroundings", around(-c.rest, empty(0, units(0), auto, units(0), auto, units(0))), Out{0, c.left, 0, c.right, 0}})
	}
	checkAll(t,
		question{"beside all else, even", box(units(5), auto, units(41), auto, units(6)), Out{5, 69, 41, 69, 6}},
		question{"beside all else, odd", box(units(5), auto, units(40), auto, units(6)), Out{5, 69, 40, 70, 6}},
		question{"exactly as wide as what is there", box(units(5), auto, units(179), auto, units(6)), Out{5, 0, 179, 0, 6}},
		question{"wider than the base, with negative distances", box(units(-50), auto, units(220), auto, units(-60)), Out{-50, 40, 220, 40, -60}},
		question{"a negative width", box(units(5), auto, units(-40), auto, units(6)), Out{5, 109, -40, 110, 6}},
	)
}

// A negative rest is not halved: one margin is 0, and the other one, by the direction of the holder, is the rest.
func TestNegativeRest(t *testing.T) {
	for _, rest := range []int64{-1, -2, -3, -60, -61, 1 - maxUnit, -maxUnit} {
		zero := units(0)
		checkRTL(t, "by the base", empty(rest, zero, auto, zero, auto, zero), Out{MarginR: rest}, Out{MarginL: rest})
		checkRTL(t, "by the surroundings", around(-rest, empty(0, zero, auto, zero, auto, zero)), Out{MarginR: rest}, Out{MarginL: rest})
		checkRTL(t, "by the width", empty(0, zero, auto, units(-rest), auto, zero), Out{Wide: -rest, MarginR: rest}, Out{MarginL: rest, Wide: -rest})
		checkRTL(t, "by Left", empty(0, units(-rest), auto, zero, auto, zero), Out{Left: -rest, MarginR: rest}, Out{Left: -rest, MarginL: rest})
		checkRTL(t, "by Right", empty(0, zero, auto, zero, auto, units(-rest)), Out{MarginR: rest, Right: -rest}, Out{MarginL: rest, Right: -rest})
	}
	checkRTL(t, "one wider", box(units(5), auto, units(180), auto, units(6)), Out{5, 0, 180, -1, 6}, Out{5, -1, 180, 0, 6})
	checkRTL(t, "far wider", box(units(5), auto, units(301), auto, units(6)), Out{5, 0, 301, -122, 6}, Out{5, -122, 301, 0, 6})
}

// None of the three auto and one margin auto: it is the rest, whatever its sign is.
func TestOneMarginAuto(t *testing.T) {
	for _, c := range []struct {
		name       string
		wide, rest int64
	}{
		{"much", 40, 136}, {"odd", 41, 135}, {"one", 175, 1}, {"nothing", 176, 0},
		{"negative", 177, -1}, {"negative and even", 178, -2}, {"far negative", 476, -300},
	} {
		checkAll(t,
			question{c.name + ", left", box(units(5), auto, units(c.wide), units(3), units(6)), Out{5, c.rest, c.wide, 3, 6}},
			question{c.name + ", right", box(units(5), units(3), units(c.wide), auto, units(6)), Out{5, 3, c.wide, c.rest, 6}},
		)
	}
	checkAll(t,
		question{"left, the right one negative", box(units(5), auto, units(40), units(-3), units(6)), Out{5, 142, 40, -3, 6}},
		question{"right, the left one negative", box(units(5), units(-3), units(40), auto, units(6)), Out{5, -3, 40, 142, 6}},
		question{"left, exceeding without it", box(units(5), auto, units(40), units(300), units(6)), Out{5, -161, 40, 300, 6}},
		question{"right, exceeding without it", box(units(5), units(300), units(40), auto, units(6)), Out{5, 300, 40, -161, 6}},
	)
}

// None of the five auto: the distance on the side where the holder's direction ends gives way, and what was given for it has no influence.
func TestNothingAuto(t *testing.T) {
	for _, given := range []int64{-maxUnit, -301, -1, 0, 1, 6, 140, 301, maxUnit} {
		check(t,
			question{"Right", box(units(5), units(2), units(40), units(3), units(given)), Out{5, 2, 40, 3, 140}},
			question{"Right, Turned", turned(box(units(5), units(2), units(40), units(3), units(given))), Out{5, 2, 40, 3, 140}},
			question{"Left", rtl(box(units(given), units(2), units(40), units(3), units(6))), Out{139, 2, 40, 3, 6}},
			question{"Left, Turned", rtl(turned(box(units(given), units(2), units(40), units(3), units(6)))), Out{139, 2, 40, 3, 6}},
		)
	}
	checkRTL(t, "nothing too much", box(units(5), units(2), units(174), units(3), units(6)), Out{5, 2, 174, 3, 6}, Out{5, 2, 174, 3, 6})
	checkRTL(t, "one too little", box(units(5), units(2), units(173), units(3), units(6)), Out{5, 2, 173, 3, 7}, Out{6, 2, 173, 3, 6})
	checkRTL(t, "one too much", box(units(5), units(2), units(175), units(3), units(6)), Out{5, 2, 175, 3, 5}, Out{4, 2, 175, 3, 6})
	checkRTL(t, "far too much", box(units(5), units(2), units(500), units(3), units(6)), Out{5, 2, 500, 3, -320}, Out{-321, 2, 500, 3, 6})
	checkRTL(t, "margins that are 0 are not auto", box(units(5), units(0), units(40), units(0), units(6)), Out{5, 0, 40, 0, 145}, Out{144, 0, 40, 0, 6})
	checkRTL(t, "everything 0", around(0, box(units(0), units(0), units(0), units(0), units(0))), Out{Right: 200}, Out{Left: 200})
}

// The width and one distance auto: the width is the preferred one, and the distance is the rest.
func TestWidthAndOneDistanceAuto(t *testing.T) {
	for _, c := range []struct{ want, left, right int64 }{
		{0, 184, 185}, {1, 183, 184}, {30, 154, 155}, {184, 0, 1}, {185, -1, 0}, {186, -2, -1}, {500, -316, -315}, {-30, 214, 215},
	} {
		left, right := box(auto, auto, auto, auto, units(6)), box(units(5), auto, auto, auto, auto)
		left.Want, right.Want = c.want, c.want
		checkAll(t, question{"left", left, Out{c.left, 0, c.want, 0, 6}}, question{"right", right, Out{5, 0, c.want, 0, c.right}})
	}
}

// The distances auto and the width given: the static position, and the width as it is given.
func TestDistancesAuto(t *testing.T) {
	for _, wide := range []int64{-9, 0, 1, 30, 40, 165, 170, 190, 400} {
		checkTurned(t, "margins auto", box(auto, auto, units(wide), auto, auto), Out{20, 0, wide, 0, 170 - wide}, Out{175 - wide, 0, wide, 0, 15})
		checkTurned(t, "margins given", box(auto, units(-2), units(wide), units(5), auto), Out{20, -2, wide, 5, 167 - wide}, Out{172 - wide, -2, wide, 5, 15})
	}
}

// One of the three auto: it is the rest, which may be negative, and margins that are auto are 0 also where there is room.
func TestOneAuto(t *testing.T) {
	checkAll(t,
		question{"left, nothing left", box(auto, auto, units(184), auto, units(6)), Out{0, 0, 184, 0, 6}},
		question{"left, negative", box(auto, auto, units(185), auto, units(6)), Out{-1, 0, 185, 0, 6}},
		question{"left, far negative", box(auto, units(20), units(500), units(30), units(6)), Out{-366, 20, 500, 30, 6}},
		question{"left, by a negative Right", box(auto, auto, units(40), auto, units(-60)), Out{210, 0, 40, 0, -60}},
		question{"right, nothing left", box(units(5), auto, units(185), auto, auto), Out{5, 0, 185, 0, 0}},
		question{"right, negative", box(units(5), auto, units(186), auto, auto), Out{5, 0, 186, 0, -1}},
		question{"right, far negative", box(units(5), units(20), units(500), units(30), auto), Out{5, 20, 500, 30, -365}},
		question{"right, by a negative Left", box(units(-60), auto, units(40), auto, auto), Out{-60, 0, 40, 0, 210}},
		question{"width, nothing left", box(units(90), auto, auto, auto, units(100)), Out{90, 0, 0, 0, 100}},
		question{"width, negative", box(units(90), auto, auto, auto, units(101)), Out{90, 0, -1, 0, 101}},
		question{"width, far negative", box(units(90), units(20), auto, units(30), units(400)), Out{90, 20, -350, 30, 400}},
		question{"width, by negative distances", box(units(-90), auto, auto, auto, units(-100)), Out{-90, 0, 380, 0, -100}},
		question{"width, by negative margins", box(units(5), units(-20), auto, units(-30), units(6)), Out{5, -20, 229, -30, 6}},
	)
}

// Want has influence only where the width and a distance are auto, and Static and Behind only where both distances are, each in its direction of the parent.
func TestInfluence(t *testing.T) {
	for i := range 32 {
		sizes := [5]size.Size{units(5), units(2), units(40), units(3), units(6)}
		for k := range sizes {
			sizes[k].Auto = i>>k&1 == 1
		}
		in := box(sizes[0], sizes[1], sizes[2], sizes[3], sizes[4])
		both := in.Left.Auto && in.Right.Auto
		for _, in := range []In{in, rtl(in), turned(in), rtl(turned(in))} {
			want, static, behind := in, in, in
			want.Want, static.Static, behind.Behind = 31, 21, 16
			checkInfluence(t, "Want", in, want, in.Wide.Auto && (in.Left.Auto || in.Right.Auto))
			checkInfluence(t, "Static", in, static, both && !in.Turned)
			checkInfluence(t, "Behind", in, behind, both && in.Turned)
		}
	}
}

// checkInfluence asks whether a number in which a and b differ has influence on the result.
func checkInfluence(t *testing.T, name string, a, b In, want bool) {
	t.Helper()
	o, okA := Solve(a)
	p, okB := Solve(b)
	if !okA || !okB || (o != p) != want {
		t.Errorf("%s in %+v: %+v and %+v", name, a, o, p)
	}
}

// The same question is answered alike, whatever is asked in between, and is left as it is.
func TestAlike(t *testing.T) {
	in := bounded(box(units(5), auto, auto, auto, units(6)), 0, 60)
	asked := in
	for i := range int64(20) {
		o, ok := Solve(asked)
		if o != (Out{5, 59, 60, 60, 6}) || !ok || asked != in {
			t.Errorf("%d: %+v gives %+v, %t", i, asked, o, ok)
		}
		Solve(rtl(turned(bounded(box(units(i), auto, units(3), units(i), units(7)), i, i))))
		Solve(empty(maxUnit+i, auto, auto, auto, auto, auto))
	}
}
