package flow

import (
	"testing"

	"decoupage/api"
	"decoupage/size"
)

// wide is a container of the width 200, whose height is not known.
var wide = room{200, auto, false}

func TestExample(t *testing.T) {
	l := []api.Node{node(-1), node(0), node(1, height(units(10)), margins(5, 5))}
	f, lay := askBox(t, "example", l, 0, wide)
	checkSpots(t, "example", lay.L, spot{1, 0, 5, 200, 10}, spot{2, 0, 0, 200, 10})
	if f.H != 20 || lay.High != 20 {
		t.Error("height:", f.H, lay.High)
	}
}

func TestSingleNode(t *testing.T) {
	for _, in := range []room{wide, {640, known(480), true}, {0, auto, false}, {maxUnit, known(maxUnit), false}} {
		f, lay := askBox(t, "single", []api.Node{node(-1)}, 0, in)
		if f != (Frame{W: in.w}) || len(lay.L)+len(lay.Pile.Y) != 0 || lay.High != 0 {
			t.Errorf("in %+v: %+v, %+v", in, f, lay)
		}
	}
}

// Margins and paddings are parts of the container's width, vertical ones too, and whatever its height is. Each is rounded down.
func TestMarginsAndPaddings(t *testing.T) {
	box := node(0, margins(0, 0), margin(api.Top, part(1000)), margin(api.Bottom, part(-533)), margin(api.Left, part(519)),
		pad(api.Top, part(250)), pad(api.Bottom, part(99)), pad(api.Left, part(150)), pad(api.Right, units(4)),
		border(api.Top, 1), border(api.Right, 2), border(api.Bottom, 3), border(api.Left, 5))
	for _, h := range []size.Size{auto, known(0), known(1000)} {
		f, _ := askBox(t, "parts", []api.Node{node(-1), box}, 1, room{200, h, false})
		want := Frame{X: 10, W: 200 - 10 - 5 - 3 - 4 - 2, Margin: [4]int64{20, 0, -11, 10}, Pad: [4]int64{5, 4, 1, 3}, Border: [4]int64{1, 2, 3, 5}}
		want.Child = solid(collapsed(20), collapsed(-11), 1+5+1+3)
		if f != want {
			t.Errorf("in a height of %+v: %+v instead of %+v", h, f, want)
		}
		f, _ = askBox(t, "parts of 300", []api.Node{node(-1), box}, 1, room{300, h, false})
		if f.Margin != [4]int64{30, 0, -16, 15} || f.Pad != [4]int64{7, 4, 2, 4} {
			t.Errorf("in a height of %+v: %+v", h, f)
		}
	}
	// Deeper, it is the width of the parent's content.
	l := []api.Node{node(-1), node(0, width(units(100)), pad(api.Left, units(50)), border(api.Top, 1)), node(1, margin(api.Top, part(1000)), pad(api.Bottom, part(500)))}
	_, lay := askBox(t, "deeper", l, 0, wide)
	if f := lay.L[1].F; f.Margin[api.Top] != 10 || f.Pad[api.Bottom] != 5 {
		t.Errorf("deeper: %+v", f)
	}
}

// A top or bottom margin that is auto is 0; a left or right one is not.
func TestMarginsThatAreAuto(t *testing.T) {
	f, _ := askBox(t, "auto", []api.Node{node(-1), node(0, width(units(40)), height(units(10)))}, 1, wide)
	if f.Margin != [4]int64{0, 80, 0, 80} || f.X != 80 || f.Child != solid(collapsed(), collapsed(), 10) {
		t.Errorf("auto: %+v", f)
	}
	f, _ = askBox(t, "given", []api.Node{node(-1), node(0, width(units(40)), height(units(10)), margins(3, -4))}, 1, wide)
	if f.Margin != [4]int64{3, 80, -4, 80} || f.Child != solid(collapsed(3), collapsed(-4), 10) {
		t.Errorf("given: %+v", f)
	}
}

// Widths and horizontal margins are those of layer 13.
func TestWidths(t *testing.T) {
	left, right := margin(api.Left, units(10)), margin(api.Right, units(30))
	around := []change{pad(api.Left, units(1)), border(api.Left, 2), pad(api.Right, units(3)), border(api.Right, 4)}
	for _, c := range []struct {
		name           string
		special        []change
		left, w, right int64
	}{
		{"all auto", nil, 0, 200, 0},
		{"margins", []change{left, right}, 10, 160, 30},
		{"negative margins", []change{margin(api.Left, units(-10)), margin(api.Right, units(-30))}, -10, 240, -30},
		{"surroundings", append([]change{left, right}, around...), 10, 150, 30},
		{"a width", append([]change{width(units(50))}, around...), 70, 50, 70},
		{"a width as a part", []change{width(part(2500)), left}, 10, 50, 140},
		{"a width of 0", []change{width(units(0)), left}, 10, 0, 190},
		{"a width, and no margin auto", []change{width(units(50)), left, right}, 10, 50, 140},
		{"too little room", []change{width(units(300)), right}, 0, 300, -100},
		{"a maximum", []change{maxW(units(60)), left}, 10, 60, 130},
		{"a maximum as a part", []change{maxW(part(1000))}, 90, 20, 90},
		{"a minimum", []change{minW(units(260)), left}, 10, 260, -70},
		{"a minimum as a part", []change{minW(part(15000))}, 0, 300, -100},
		{"a minimum above a maximum", []change{minW(units(60)), maxW(units(40)), left}, 10, 60, 130},
		{"a width below a minimum", []change{width(units(9)), minW(part(500)), left}, 10, 10, 180},
		{"a width above a maximum", []change{width(units(99)), maxW(part(500)), left}, 10, 10, 180},
		{"no room at all", []change{margin(api.Left, units(150)), margin(api.Right, units(70))}, 150, 0, 50},
	} {
		f, _ := askBox(t, c.name, []api.Node{node(-1), node(0, c.special...)}, 1, wide)
		if f.X != c.left || f.W != c.w || f.Margin[api.Left] != c.left || f.Margin[api.Right] != c.right {
			t.Errorf("%s: %+v instead of %d, %d, %d", c.name, f, c.left, c.w, c.right)
		}
	}
}

// A box is in the direction of its container, and its children are in its own.
func TestDirections(t *testing.T) {
	both := []change{width(units(50)), margin(api.Left, units(10)), margin(api.Right, units(30))}
	for i := range 8 {
		ltr := [3]int64{10, 10, 10}
		l := []api.Node{node(-1, both...), node(0, both...), node(1, both...)}
		in := room{200, auto, i&1 != 0}
		// Below 0 and 1, the containers are 50 wide.
		turned := [3]int64{200 - 50 - 30, 50 - 50 - 30, 50 - 50 - 30}
		for n := range 2 {
			l[n].S.RTL = i>>(n+1)&1 != 0
		}
		want := ltr
		for n, is := range []bool{in.rtl, l[0].S.RTL, l[1].S.RTL} {
			if is {
				want[n] = turned[n]
			}
		}
		f, lay := askBox(t, "directions", l, 0, in)
		if got := [3]int64{f.X, lay.L[0].F.X, lay.L[1].F.X}; got != want || f.Margin[api.Left] != want[0] {
			t.Errorf("directions %d: %v instead of %v", i, got, want)
		}
		l[2].S.RTL = true
		if _, again := askBox(t, "a direction of no children", l, 0, in); !sameLay(lay, again) {
			t.Errorf("directions %d: %+v instead of %+v", i, again, lay)
		}
	}
}

// tall is a tree whose node 1 has these heights, and a content of the height 50.
func tall(own, least, most api.Len) []api.Node {
	return []api.Node{node(-1), node(0, height(own), minH(least), maxH(most)), node(1, height(units(50)))}
}

func TestHeights(t *testing.T) {
	var none api.Len
	for _, c := range []struct {
		name             string
		own, least, most api.Len
		h                size.Size
		want             int64
		known            bool
	}{
		{"auto", none, none, none, auto, 50, false},
		{"auto in a known height", none, none, none, known(80), 50, false},
		{"units", units(30), none, none, auto, 30, true},
		{"units in a known height", units(30), none, none, known(80), 30, true},
		{"units above the content", units(70), none, none, auto, 70, true},
		{"0", units(0), none, none, auto, 0, true},
		{"a part", part(5000), none, none, known(80), 40, true},
		{"a part, rounded down", part(5000), none, none, known(81), 40, true},
		{"a part of 0", part(5000), none, none, known(0), 0, true},
		{"a part of auto", part(5000), none, none, auto, 50, false},
		{"a part of 0%, of auto", part(0), none, none, auto, 50, false},
		{"auto, equal to a minimum", none, units(50), none, auto, 50, false},
		{"auto, below a minimum", none, units(51), none, auto, 51, false},
		{"auto, below a minimum as a part", none, part(7500), none, known(80), 60, false},
		{"auto, below a minimum as a part of auto", none, part(7500), none, auto, 50, false},
		{"auto, equal to a maximum", none, none, units(50), auto, 50, false},
		{"auto, above a maximum", none, none, units(49), auto, 49, false},
		{"auto, above a maximum of 0", none, none, units(0), auto, 0, false},
		{"auto, above a maximum as a part", none, none, part(2500), known(80), 20, false},
		{"auto, above a maximum as a part of 0", none, none, part(2500), known(0), 0, false},
		{"auto, above a maximum as a part of auto", none, none, part(2500), auto, 50, false},
		{"auto, below both, the minimum above the maximum", none, units(70), units(60), auto, 70, false},
		{"auto, between both, the minimum above the maximum", none, units(70), units(40), auto, 70, false},
		{"auto, above both, the minimum above the maximum", none, units(40), units(20), auto, 40, false},
		{"given, below a minimum", units(30), units(40), none, auto, 40, true},
		{"given, below a minimum as a part", units(30), part(5000), none, known(80), 40, true},
		{"given, below a minimum as a part of auto", units(30), part(5000), none, auto, 30, true},
		{"given, above a maximum", units(30), none, units(20), auto, 20, true},
		{"given, above a maximum as a part", units(30), none, part(2500), known(80), 20, true},
		{"given, above a maximum as a part of auto", units(30), none, part(2500), auto, 30, true},
		{"given, within both", units(30), units(20), units(40), auto, 30, true},
		{"given, the minimum above the maximum", units(30), units(25), units(20), auto, 25, true},
		{"a part, above a maximum", part(5000), none, units(11), known(80), 11, true},
		{"a part, below a minimum", part(5000), part(6000), none, known(80), 48, true},
	} {
		f, lay := askBox(t, c.name, tall(c.own, c.least, c.most), 1, room{200, c.h, false})
		if f.H != c.want || f.Known != c.known || f.Child.High != c.want || lay.High != 50 {
			t.Errorf("%s: %+v, %d instead of %d, %t", c.name, f, lay.High, c.want, c.known)
		}
	}
}

// What is a part of a box's height sees that height clamped if it is given, and otherwise none, whatever the bounds are.
func TestHeightOfTheContainer(t *testing.T) {
	var none api.Len
	for _, c := range []struct {
		name             string
		own, least, most api.Len
		h                size.Size
		want             int64
		known            bool
	}{
		{"given", units(30), none, none, auto, 15, true},
		{"given, below a minimum", units(30), units(40), none, auto, 20, true},
		{"given, above a maximum", units(30), none, units(20), auto, 10, true},
		{"given, the minimum above the maximum", units(30), units(26), units(20), auto, 13, true},
		{"given, below a minimum as a part", units(30), part(5000), none, known(80), 20, true},
		{"0", units(0), none, none, auto, 0, true},
		{"a part", part(5000), none, none, known(80), 20, true},
		{"a part of auto", part(5000), none, none, auto, 7, false},
		{"auto", none, none, none, known(80), 7, false},
		{"auto, with a minimum", none, units(40), none, known(80), 7, false},
		{"auto, with a maximum", none, none, units(4), known(80), 7, false},
		{"auto, with both equal", none, units(40), units(40), known(80), 7, false},
	} {
		// Each of height, minimum and maximum of the inner boxes is half of it.
		l := []api.Node{node(-1), node(0, height(c.own), minH(c.least), maxH(c.most)), node(1, height(part(5000))), node(2, height(units(7))),
			node(1, minH(part(5000))), node(1, height(units(99)), maxH(part(5000)))}
		_, lay := askBox(t, c.name, l, 1, room{200, c.h, false})
		half, least, most := lay.L[0].F, lay.L[2].F, lay.L[3].F
		if half.H != c.want || half.Known != c.known {
			t.Errorf("%s: %+v instead of %d", c.name, half, c.want)
		}
		if c.known && (least.H != c.want || most.H != c.want) || !c.known && (least.H != 0 || most.H != 99) || least.Known || !most.Known {
			t.Errorf("%s: %+v and %+v", c.name, least, most)
		}
	}
}

// The height of a content, for a box that is closed or open at its ends.
func TestContentHeight(t *testing.T) {
	closedTop, closedBottom := border(api.Top, 1), border(api.Bottom, 1)
	ten := func(top, bottom int64) []change { return []change{height(units(10)), margins(top, bottom)} }
	gap := func(top, bottom int64) []change { return []change{margins(top, bottom)} }
	for _, c := range []struct {
		name string
		box  []change
		kids [][]change
		want int64
	}{
		{"no children", nil, nil, 0},
		{"no children, closed", []change{clip}, nil, 0},
		{"open", nil, [][]change{ten(5, 7)}, 10},
		{"open, two", nil, [][]change{ten(5, 7), ten(3, 9)}, 27},
		{"closed at the top", []change{closedTop}, [][]change{ten(5, 7)}, 15},
		{"closed at the bottom", []change{closedBottom}, [][]change{ten(5, 7)}, 17},
		{"closed", []change{closedTop, closedBottom}, [][]change{ten(5, 7)}, 22},
		{"independent", []change{clip}, [][]change{ten(5, 7), ten(3, 9)}, 5 + 10 + 7 + 10 + 9},
		{"of a given height", []change{height(units(3))}, [][]change{ten(5, 7)}, 17},
		{"with a minimum", []change{minH(units(3))}, [][]change{ten(5, 7)}, 17},
		{"with a maximum", []change{maxH(units(3))}, [][]change{ten(5, 7)}, 10},
		{"at the top", nil, [][]change{gap(5, 7), gap(-2, 20)}, 0},
		{"at the top, closed at the bottom", []change{closedBottom}, [][]change{gap(5, 7), gap(-2, 20)}, 0},
		{"at the top, with a minimum", []change{minH(units(3))}, [][]change{gap(5, 7)}, 0},
		{"margins alone, closed at the top", []change{closedTop}, [][]change{gap(5, 7), gap(-2, 20)}, 0},
		{"margins alone, closed", []change{closedTop, closedBottom}, [][]change{gap(5, 7), gap(-2, 20)}, 18},
		{"margins alone, closed and negative", []change{closedTop, closedBottom}, [][]change{gap(5, 7), gap(-20, 2)}, 0},
		{"margins below, open", nil, [][]change{ten(5, 7), gap(30, 20)}, 10},
		{"margins below, closed", []change{clip}, [][]change{ten(5, 7), gap(30, 20)}, 45},
		{"one left by a negative margin", []change{closedBottom}, [][]change{ten(0, -9)}, 1},
		{"nothing left by a negative margin", []change{closedBottom}, [][]change{ten(0, -10)}, 0},
		{"less than nothing left by a negative margin", []change{closedBottom}, [][]change{ten(0, -11)}, 0},
		{"far less than nothing left", []change{closedBottom}, [][]change{ten(0, -300)}, 0},
		{"a negative margin that is outside", nil, [][]change{ten(0, -300)}, 10},
		{"one left of a box that is moved up", []change{closedTop}, [][]change{ten(-9, 0)}, 1},
		{"nothing left of a box that is moved up", []change{closedTop}, [][]change{ten(-10, 0)}, 0},
		{"moved up out of the box", []change{closedTop}, [][]change{ten(-300, 0)}, 0},
		{"moved up out of the box, with a margin that leads back", []change{clip}, [][]change{ten(-30, 25)}, 5},
		{"the second one moved up above the first one", nil, [][]change{ten(0, -30), ten(0, 0)}, 0},
	} {
		l := []api.Node{node(-1), node(0, c.box...)}
		for _, kid := range c.kids {
			l = append(l, node(1, kid...))
		}
		f, lay := askBox(t, c.name, l, 1, wide)
		if lay.High != c.want || f.H != c.want && l[1].S.Height == (api.Len{}) && l[1].S.MinH == (api.Len{}) && l[1].S.MaxH == (api.Len{}) {
			t.Errorf("%s: %d and %d instead of %d", c.name, lay.High, f.H, c.want)
		}
	}
}

// A box may be higher than its content and lower; its content says what it is for itself.
func TestContentHeightIsNotClamped(t *testing.T) {
	for _, c := range []struct {
		special change
		want    int64
	}{
		{height(units(3)), 3}, {height(units(90)), 90}, {minH(units(90)), 90}, {maxH(units(3)), 3},
	} {
		l := []api.Node{node(-1), node(0, c.special), node(1, height(units(10)))}
		if f, lay := askBox(t, "clamped", l, 1, wide); f.H != c.want || lay.High != 10 {
			t.Errorf("a height of %d and a content of %d instead of %d and 10", f.H, lay.High, c.want)
		}
	}
}

// Children are where their margins and the pile put them, relative to the corner of the content: what surrounds the content has no influence.
func TestPositionsOfChildren(t *testing.T) {
	l := []api.Node{
		node(-1, pad(api.Left, units(20)), pad(api.Top, units(30)), border(api.Left, 4), border(api.Top, 6)),
		node(0, margin(api.Left, units(7)), margins(5, 9), height(units(10))),
		node(0, margin(api.Left, units(-3)), margins(3, -2), height(units(20)), pad(api.Top, units(2)), border(api.Bottom, 1)),
		node(0, margins(1, 6)),
		node(0, margin(api.Left, units(11)), margins(4, 8), height(units(5))),
	}
	f, lay := askBox(t, "positions", l, 0, wide)
	checkSpots(t, "positions", lay.L, spot{1, 7, 5, 169, 10}, spot{2, -3, 24, 179, 20}, spot{3, 0, 24 + 23 - 1, 176, 0}, spot{4, 11, 24 + 23 + 4, 165, 5})
	if f.X != 0 || f.Y != 0 || f.W != 176 || f.H != 24+23+4+5+8 {
		t.Errorf("positions: %+v", f)
	}
}

// The list has all boxes within a box in ascending order, whichever level they are on, each relative to its parent's content.
func TestBoxesWithin(t *testing.T) {
	special := func(n int64) []change {
		return []change{pad(api.Left, units(n)), pad(api.Top, units(1)), height(units(n))}
	}
	l := []api.Node{node(-1, special(1)...)}
	for n, parent := range []int{0, 1, 2, 1, 0, 5, 6, 7, 5, 0} {
		l = append(l, node(parent, special(int64(n+2))...))
	}
	_, lay := askBox(t, "within 0", l, 0, wide)
	checkSpots(t, "within 0", lay.L,
		spot{1, 0, 0, 197, 2}, spot{2, 0, 0, 194, 3}, spot{3, 0, 0, 190, 4}, spot{4, 0, 4, 192, 5}, spot{5, 0, 3, 193, 6},
		spot{6, 0, 0, 186, 7}, spot{7, 0, 0, 178, 8}, spot{8, 0, 0, 169, 9}, spot{9, 0, 8, 183, 10}, spot{10, 0, 10, 188, 11})
	_, lay = askBox(t, "within 5", l, 5, wide)
	checkSpots(t, "within 5", lay.L, spot{6, 0, 0, 187, 7}, spot{7, 0, 0, 179, 8}, spot{8, 0, 0, 170, 9}, spot{9, 0, 8, 184, 10})
	_, lay = askBox(t, "within 10", l, 10, wide)
	checkSpots(t, "within 10", lay.L)
}

// The frames in the list are those of the boxes by themselves, but for Y.
func TestFramesWithin(t *testing.T) {
	l := []api.Node{node(-1, height(units(60)), rtl), node(0, margins(5, 9), pad(api.Left, part(500))), node(1, height(units(10)), margins(-3, 4), width(units(30))), node(0, height(part(5000)), width(part(1000)), margins(0, 7))}
	_, lay := askBox(t, "frames", l, 0, wide)
	for i, c := range []struct {
		n  int
		in room
		y  int64
	}{{1, room{200, known(60), true}, 2}, {2, room{190, auto, false}, 0}, {3, room{200, known(60), true}, 21}} {
		f, _ := askBox(t, "frames", l, c.n, c.in)
		if f.Y != 0 {
			t.Errorf("node %d: Y is %d", c.n, f.Y)
		}
		f.Y = c.y
		if lay.L[i] != (Placed{c.n, f}) {
			t.Errorf("node %d: %+v instead of %+v", c.n, lay.L[i], f)
		}
	}
	if !lay.L[2].F.Known || !lay.L[1].F.Known || lay.L[0].F.Known {
		t.Errorf("known: %+v", lay.L)
	}
}
