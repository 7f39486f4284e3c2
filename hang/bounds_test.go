package hang

import (
	"testing"

	"decoupage/size"
)

// A width that is auto and above Most is given from then on: margins that were 0 share the rest, or what is given gives way.
func TestAboveMost(t *testing.T) {
	five, six, most := units(5), units(6), int64(60)
	in := func(marginL, marginR size.Size) In { return bounded(box(five, marginL, auto, marginR, six), 0, most) }
	checkAll(t,
		question{"margins auto", in(auto, auto), Out{5, 59, 60, 60, 6}},
		question{"left margin auto", in(auto, units(3)), Out{5, 116, 60, 3, 6}},
		question{"right margin auto", in(units(2), auto), Out{5, 2, 60, 117, 6}},
		question{"equal to Most", bounded(box(five, auto, auto, auto, six), 0, 179), Out{5, 0, 179, 0, 6}},
		question{"one above Most", bounded(box(five, auto, auto, auto, six), 0, 178), Out{5, 0, 178, 1, 6}},
		question{"two above Most", bounded(box(five, auto, auto, auto, six), 0, 177), Out{5, 1, 177, 1, 6}},
		question{"a Most of 0", bounded(box(five, auto, auto, auto, six), 0, 0), Out{5, 89, 0, 90, 6}},
		question{"a Most below 0", bounded(box(five, auto, auto, auto, six), -9, -6), Out{5, 92, -6, 93, 6}},
	)
	checkRTL(t, "margins given", in(units(2), units(3)), Out{5, 2, 60, 3, 120}, Out{119, 2, 60, 3, 6})
}

// A preferred width above Most: a distance that is auto is still the rest, and the static position and margins of 0 stay.
func TestWantAboveMost(t *testing.T) {
	for _, c := range []struct{ most, wide int64 }{{31, 30}, {30, 30}, {29, 29}, {20, 20}, {0, 0}, {-6, -6}} {
		w := c.wide
		all := func(in In) In { return bounded(in, -9, c.most) }
		checkTurned(t, "all", all(box(auto, auto, auto, auto, auto)), Out{20, 0, w, 0, 170 - w}, Out{175 - w, 0, w, 0, 15})
		checkTurned(t, "distances", all(box(auto, units(2), auto, units(3), auto)), Out{20, 2, w, 3, 165 - w}, Out{170 - w, 2, w, 3, 15})
		checkAll(t,
			question{"left, margins auto", all(box(auto, auto, auto, auto, units(6))), Out{184 - w, 0, w, 0, 6}},
			question{"left, margins given", all(box(auto, units(2), auto, units(3), units(6))), Out{179 - w, 2, w, 3, 6}},
			question{"right, margins auto", all(box(units(5), auto, auto, auto, auto)), Out{5, 0, w, 0, 185 - w}},
			question{"right, margins given", all(box(units(5), units(2), auto, units(3), auto)), Out{5, 2, w, 3, 180 - w}},
		)
	}
}

// A given width beyond a bound: all is done again with the bound in its place.
func TestGivenWidthBeyondBounds(t *testing.T) {
	for _, wide := range []int64{-5, 0, 39, 40, 41, 400} {
		in := func(left, marginL, marginR, right size.Size) In {
			return bounded(box(left, marginL, units(wide), marginR, right), 40, 40)
		}
		five, two, three, six := units(5), units(2), units(3), units(6)
		checkTurned(t, "distances", in(auto, auto, auto, auto), Out{20, 0, 40, 0, 130}, Out{135, 0, 40, 0, 15})
		checkAll(t,
			question{"left", in(auto, two, three, six), Out{139, 2, 40, 3, 6}},
			question{"right", in(five, auto, auto, auto), Out{5, 0, 40, 0, 145}},
			question{"margins", in(five, auto, auto, six), Out{5, 69, 40, 70, 6}},
			question{"left margin", in(five, auto, three, six), Out{5, 136, 40, 3, 6}},
			question{"right margin", in(five, two, auto, six), Out{5, 2, 40, 137, 6}},
		)
		checkRTL(t, "none", in(five, two, three, six), Out{5, 2, 40, 3, 140}, Out{139, 2, 40, 3, 6})
	}
}

// A width that is auto and below Least is given from then on, too.
func TestBelowLeast(t *testing.T) {
	ninety, high, most := units(90), units(101), int64(999)
	checkAll(t,
		question{"equal to Least", bounded(box(units(5), auto, auto, auto, units(6)), 179, most), Out{5, 0, 179, 0, 6}},
		question{"a negative width equal to Least", bounded(box(ninety, auto, auto, auto, high), -1, most), Out{90, 0, -1, 0, 101}},
		question{"left margin auto", bounded(box(ninety, auto, auto, units(3), high), 0, most), Out{90, -4, 0, 3, 101}},
		question{"right margin auto", bounded(box(ninety, units(2), auto, auto, high), 0, most), Out{90, 2, 0, -3, 101}},
	)
	checkRTL(t, "one below Least", bounded(box(ninety, auto, auto, auto, high), 0, most), Out{90, 0, 0, -1, 101}, Out{90, -1, 0, 0, 101})
	checkRTL(t, "below Least", bounded(box(units(5), auto, auto, auto, units(6)), 190, most), Out{5, 0, 190, -11, 6}, Out{5, -11, 190, 0, 6})
	checkRTL(t, "margins given", bounded(box(ninety, units(2), auto, units(3), high), 0, most), Out{90, 2, 0, 3, 95}, Out{84, 2, 0, 3, 101})
}

// A preferred width below Least.
func TestWantBelowLeast(t *testing.T) {
	for _, c := range []struct{ least, wide int64 }{{29, 30}, {30, 30}, {31, 31}, {77, 77}, {300, 300}} {
		w := c.wide
		all := func(in In) In { return bounded(in, c.least, 999) }
		checkTurned(t, "all", all(box(auto, auto, auto, auto, auto)), Out{20, 0, w, 0, 170 - w}, Out{175 - w, 0, w, 0, 15})
		checkTurned(t, "distances", all(box(auto, units(2), auto, units(3), auto)), Out{20, 2, w, 3, 165 - w}, Out{170 - w, 2, w, 3, 15})
		checkAll(t,
			question{"left", all(box(auto, auto, auto, auto, units(6))), Out{184 - w, 0, w, 0, 6}},
			question{"right", all(box(units(5), units(2), auto, units(3), auto)), Out{5, 2, w, 3, 180 - w}},
		)
	}
}

// Where Least is above Most, Least wins, whatever the width is.
func TestLeastAboveMost(t *testing.T) {
	five, two, three, six := units(5), units(2), units(3), units(6)
	for _, wide := range []size.Size{auto, units(-7), units(10), units(20), units(25), units(40), units(41), units(500)} {
		in := func(left, marginL, marginR, right size.Size) In {
			return bounded(box(left, marginL, wide, marginR, right), 40, 20)
		}
		checkTurned(t, "distances", in(auto, two, three, auto), Out{20, 2, 40, 3, 125}, Out{130, 2, 40, 3, 15})
		checkAll(t,
			question{"left", in(auto, auto, auto, six), Out{144, 0, 40, 0, 6}},
			question{"right", in(five, auto, auto, auto), Out{5, 0, 40, 0, 145}},
			question{"margins", in(five, auto, auto, six), Out{5, 69, 40, 70, 6}},
			question{"left margin", in(five, auto, three, six), Out{5, 136, 40, 3, 6}},
			question{"right margin", in(five, two, auto, six), Out{5, 2, 40, 137, 6}},
		)
		checkRTL(t, "none", in(five, two, three, six), Out{5, 2, 40, 3, 140}, Out{139, 2, 40, 3, 6})
	}
}

// The margins are those of the last width that is tried, not of one before it.
func TestLastWidth(t *testing.T) {
	five, six := units(5), units(6)
	checkAll(t,
		question{"room with Most, less with Least", bounded(box(five, auto, auto, auto, six), 100, 60), Out{5, 39, 100, 40, 6}},
		question{"0 with its own width, room with both", bounded(box(five, auto, auto, auto, six), 80, 79), Out{5, 49, 80, 50, 6}},
		question{"no room with its own width, room with Most", bounded(box(five, auto, units(300), auto, six), 0, 100), Out{5, 39, 100, 40, 6}},
	)
	checkRTL(t, "room with Most, none with Least", bounded(box(five, auto, auto, auto, six), 180, 60), Out{5, 0, 180, -1, 6}, Out{5, -1, 180, 0, 6})
	checkRTL(t, "room with its own width, none with Least", bounded(box(five, auto, units(10), auto, six), 180, 999), Out{5, 0, 180, -1, 6}, Out{5, -1, 180, 0, 6})
}

// A bound that does not fit is a width that does not fit, but only where it is tried.
func TestBoundFits(t *testing.T) {
	great, little := []int64{maxUnit + 1, maxUnit + 2, maxInt - 1, maxInt}, []int64{-maxUnit - 1, -maxUnit - 2, minInt + 1, minInt}
	patterns := []In{
		box(auto, auto, auto, auto, auto), box(auto, units(2), auto, units(3), units(6)), box(units(5), auto, auto, auto, auto),
		box(units(5), auto, auto, auto, units(6)), box(units(5), units(2), units(30), units(3), units(6)), box(units(5), auto, units(30), auto, units(6)),
	}
	for i := range great {
		for _, in := range patterns {
			own, _ := Solve(in)
			wide := own.Wide
			checkKept(t, "none tried", bounded(in, little[i], great[i]), in)
			checkKept(t, "Least not tried", bounded(in, little[i], wide), in)
			checkKept(t, "Most not tried", bounded(in, wide, great[i]), in)
			checkKept(t, "Least tried, Most not", bounded(in, wide+9, great[i]), bounded(in, wide+9, maxUnit))
			checkKept(t, "Most tried, Least not", bounded(in, little[i], wide-9), bounded(in, -maxUnit, wide-9))
			checkFalse(t, "Least tried", bounded(in, great[i], wide))
			checkFalse(t, "Least tried, as great as Most", bounded(in, great[i], great[i]))
			checkFalse(t, "Least tried after Most", bounded(in, great[i], wide-9))
			checkFalse(t, "Most tried, but not Least", bounded(in, wide-9, little[i]))
			checkFalse(t, "Most tried, as little as Least", bounded(in, little[i], little[i]))
			checkFalse(t, "Most tried, and Least would be", bounded(in, wide+9, little[i]))
			checkFalse(t, "Most tried, and Least would not fit", bounded(in, great[i], little[i]))
		}
	}
	zero := units(0)
	checkAll(t,
		question{"Most at the limit", bounded(empty(maxUnit, zero, auto, auto, auto, zero), 0, maxUnit), Out{Wide: maxUnit}},
		question{"Least at the limit", bounded(empty(maxUnit, zero, auto, units(5), auto, zero), maxUnit, maxUnit), Out{Wide: maxUnit}},
		question{"Most at the negative limit", bounded(empty(-maxUnit, zero, auto, units(5-maxUnit), auto, zero), -maxUnit, -maxUnit), Out{Wide: -maxUnit}},
		question{"Least at the negative limit", bounded(empty(-maxUnit, zero, auto, auto, auto, zero), -maxUnit, maxUnit), Out{Wide: -maxUnit}},
	)
}

// checkKept asks about two boxes, which have the same answer, and that is true.
func checkKept(t *testing.T, name string, a, b In) {
	t.Helper()
	want, ok := Solve(b)
	if !ok {
		t.Errorf("%s: %+v gives false", name, b)
	}
	check(t, question{name, a, want})
}
