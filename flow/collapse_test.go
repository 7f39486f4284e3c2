package flow

import (
	"testing"

	"decoupage/api"
	"decoupage/pile"
	"decoupage/size"
)

// inner is a content of the height 10, with margins of 5 and 7.
func inner(parent int) api.Node { return node(parent, height(units(10)), margins(5, 7)) }

// checkEnds checks at which of its ends a box, whose only child is inner, is open. Its own margins are 0.
func checkEnds(t *testing.T, name string, f Frame, lay Lay, top, bottom bool) {
	t.Helper()
	var child pile.Child
	var y, high int64 = 5, 15
	if top {
		child.Top = collapsed(5)
		y, high = 0, 10
	}
	if bottom {
		child.Bottom = collapsed(7)
	} else {
		high += 7
	}
	if lay.L[0].F.Y != y || lay.High != high || f.Child.Top != child.Top || f.Child.Inner != child.Top || f.Child.Bottom != child.Bottom {
		t.Errorf("%s: not open at its top %t and bottom %t: %+v, %+v", name, top, bottom, f, lay)
	}
}

func TestIndependent(t *testing.T) {
	for _, p := range []int{api.Static, api.Relative, api.Absolute, api.Fixed} {
		for _, special := range [][]change{{position(p)}, {position(p), clip}} {
			l := []api.Node{node(-1, special...), inner(0)}
			f, lay := askBox(t, "first node", l, 0, wide)
			checkEnds(t, "first node", f, lay, false, false)
			if f.H != 22 {
				t.Errorf("first node: %+v", f)
			}
		}
		// Box asks for a box in the flow, also where the node is out of it.
		l := []api.Node{node(-1), node(0, position(p)), inner(1)}
		f, lay := askBox(t, "any Position", l, 1, wide)
		checkEnds(t, "any Position", f, lay, true, true)
		l = with(l, 1, clip)
		f, lay = askBox(t, "Clip", l, 1, wide)
		checkEnds(t, "Clip", f, lay, false, false)
	}
	for _, p := range []int{api.Static, api.Relative} {
		_, lay := askBox(t, "in the flow", []api.Node{node(-1), node(0, position(p)), inner(1)}, 0, wide)
		checkSpots(t, "in the flow", lay.L, spot{1, 0, 5, 200, 10}, spot{2, 0, 0, 200, 10})
		_, lay = askBox(t, "Clip", []api.Node{node(-1), node(0, position(p), clip), inner(1)}, 0, wide)
		checkSpots(t, "Clip", lay.L, spot{1, 0, 0, 200, 22}, spot{2, 0, 5, 200, 10})
	}
	for _, p := range []int{api.Absolute, api.Fixed} {
		for _, special := range [][]change{{position(p)}, {position(p), clip}} {
			lay := askInside(t, "out of the flow", []api.Node{node(-1), node(0, special...), inner(1)}, 1, 200, auto)
			checkSpots(t, "out of the flow", lay.L, spot{2, 0, 5, 200, 10})
			if lay.High != 22 || lay.Pile.AtTop || lay.Pile.Top != collapsed() {
				t.Errorf("out of the flow: %+v", lay)
			}
		}
	}
}

func TestEnds(t *testing.T) {
	for _, c := range []struct {
		name        string
		special     change
		h           size.Size
		top, bottom bool
	}{
		{"plain", margins(0, 0), auto, true, true},
		{"plain in a known height", margins(0, 0), known(60), true, true},
		{"Clip", clip, auto, false, false},
		{"right to left", rtl, auto, true, true},
		{"top border", border(api.Top, 1), auto, false, true},
		{"right border", border(api.Right, 1), auto, true, true},
		{"bottom border", border(api.Bottom, 1), auto, true, false},
		{"left border", border(api.Left, 1), auto, true, true},
		{"top padding", pad(api.Top, units(1)), auto, false, true},
		{"right padding", pad(api.Right, units(1)), auto, true, true},
		{"bottom padding", pad(api.Bottom, units(1)), auto, true, false},
		{"left padding", pad(api.Left, units(1)), auto, true, true},
		{"top padding as a part", pad(api.Top, part(50)), auto, false, true},
		{"top padding as a part that is 0", pad(api.Top, part(49)), known(maxUnit), true, true},
		{"bottom padding as a part", pad(api.Bottom, part(50)), auto, true, false},
		{"bottom padding as a part that is 0", pad(api.Bottom, part(49)), known(maxUnit), true, true},
		{"Height", height(units(30)), auto, true, false},
		{"Height 0", height(units(0)), auto, true, false},
		{"Height as a part", height(part(5000)), known(60), true, false},
		{"Height as a part that is 0", height(part(1)), known(60), true, false},
		{"Height as a part of 0", height(part(5000)), known(0), true, false},
		{"Height as a part of auto", height(part(5000)), auto, true, true},
		{"MinH", minH(units(1)), auto, true, false},
		{"MinH below the height", minH(units(4)), known(60), true, false},
		{"MinH 0", minH(units(0)), auto, true, true},
		{"MinH as a part", minH(part(200)), known(60), true, false},
		{"MinH as a part that is 0", minH(part(100)), known(60), true, true},
		{"MinH as a part of 0", minH(part(10000)), known(0), true, true},
		{"MinH as a part of auto", minH(part(10000)), auto, true, true},
		{"MaxH", maxH(units(3)), auto, true, true},
		{"MaxH 0", maxH(units(0)), auto, true, true},
		{"MaxH as a part", maxH(part(100)), known(60), true, true},
		{"MinW", minW(units(10)), auto, true, true},
	} {
		f, lay := askBox(t, c.name, []api.Node{node(-1), node(0, c.special), inner(1)}, 1, room{200, c.h, false})
		checkEnds(t, c.name, f, lay, c.top, c.bottom)
		f, lay = askBox(t, c.name+", bottom border", []api.Node{node(-1), node(0, c.special, border(api.Bottom, 2)), inner(1)}, 1, room{200, c.h, false})
		checkEnds(t, c.name+", bottom border", f, lay, c.top, false)
		f, lay = askBox(t, c.name+", top border", []api.Node{node(-1), node(0, c.special, border(api.Top, 2)), inner(1)}, 1, room{200, c.h, false})
		checkEnds(t, c.name+", top border", f, lay, false, c.bottom)
	}
}

// Margins collapse through a box, or they do not: without children, with one through which margins collapse, and with one through which they do not.
func TestThrough(t *testing.T) {
	for _, c := range []struct {
		name            string
		special         []change
		h               size.Size
		without, having bool
	}{
		{"plain", nil, auto, true, true},
		{"plain in a known height", nil, known(60), true, true},
		{"relative", []change{position(api.Relative)}, auto, true, true},
		{"Clip", []change{clip}, auto, false, false},
		{"top border", []change{border(api.Top, 1)}, auto, false, false},
		{"bottom border", []change{border(api.Bottom, 1)}, auto, false, false},
		{"left and right border", []change{border(api.Left, 1), border(api.Right, 1)}, auto, true, true},
		{"top padding", []change{pad(api.Top, units(1))}, auto, false, false},
		{"bottom padding", []change{pad(api.Bottom, units(1))}, auto, false, false},
		{"left and right padding", []change{pad(api.Left, units(1)), pad(api.Right, units(1))}, auto, true, true},
		{"top padding as a part", []change{pad(api.Top, part(50))}, auto, false, false},
		{"top padding as a part that is 0", []change{pad(api.Top, part(49))}, auto, true, true},
		{"bottom padding as a part", []change{pad(api.Bottom, part(50))}, auto, false, false},
		{"bottom padding as a part that is 0", []change{pad(api.Bottom, part(49))}, auto, true, true},
		{"MinH", []change{minH(units(1))}, auto, false, false},
		{"MinH 0", []change{minH(units(0))}, auto, true, true},
		{"MinH as a part", []change{minH(part(200))}, known(60), false, false},
		{"MinH as a part that is 0", []change{minH(part(100))}, known(60), true, true},
		{"MinH as a part of auto", []change{minH(part(200))}, auto, true, true},
		{"MinH 1, MaxH 0", []change{minH(units(1)), maxH(units(0))}, auto, false, false},
		{"MaxH 0", []change{maxH(units(0))}, auto, true, true},
		{"Height 0", []change{height(units(0))}, auto, true, false},
		{"Height 0, MinH 1", []change{height(units(0)), minH(units(1))}, auto, false, false},
		{"Height 0, top border", []change{height(units(0)), border(api.Top, 1)}, auto, false, false},
		{"Height 0, bottom padding", []change{height(units(0)), pad(api.Bottom, units(1))}, auto, false, false},
		{"Height 0, Clip", []change{height(units(0)), clip}, auto, false, false},
		{"Height 1", []change{height(units(1))}, auto, false, false},
		{"Height 1, MaxH 0", []change{height(units(1)), maxH(units(0))}, auto, false, false},
		{"Height as a part", []change{height(part(5000))}, known(60), false, false},
		{"Height as a part that is 0", []change{height(part(100))}, known(60), true, false},
		{"Height as a part of 0", []change{height(part(5000))}, known(0), true, false},
		{"Height as a part of auto", []change{height(part(5000))}, auto, true, true},
	} {
		box := append([]change{margins(6, -2)}, c.special...)
		in := room{200, c.h, false}
		for _, k := range []struct {
			name string
			kid  api.Node
			want bool
		}{
			{"no children", node(0, margins(99, 99)), c.without},
			{"a child that is not shown", node(1, hidden, margins(99, 99)), c.without},
			{"a child that is absolute", node(1, absolute, margins(99, 99)), c.without},
			{"a child that is fixed", node(1, position(api.Fixed), height(units(3))), c.without},
			{"a hollow child", node(1, margins(5, 9)), c.having},
			{"a child of height 0", node(1, margins(5, 9), height(units(0))), c.having},
			{"a high child", inner(1), false},
			{"an independent child", node(1, margins(5, 9), clip), false},
			{"a child with a border", node(1, margins(5, 9), border(api.Top, 1)), false},
		} {
			f, _ := askBox(t, c.name+", "+k.name, []api.Node{node(-1), node(0, box...), k.kid}, 1, in)
			if f.Child.Through != k.want || f.Child.Through && (f.Child.High != 0 || f.Child.Top != f.Child.Bottom) {
				t.Errorf("%s, %s: %+v", c.name, k.name, f)
			}
		}
	}
}

// The first node and a box out of the flow are independent, so that margins never collapse through them; Box of a node that is out of the flow asks for one that is not.
func TestThroughByPosition(t *testing.T) {
	l := []api.Node{node(-1, margins(6, -2)), node(0, margins(6, -2))}
	f, _ := askBox(t, "first", l, 0, wide)
	checkChild(t, "first", f, solid(collapsed(6), collapsed(-2), 4))
	for _, p := range []int{api.Static, api.Relative, api.Absolute, api.Fixed} {
		f, _ = askBox(t, "position", with(l, 1, position(p)), 1, wide)
		checkChild(t, "position", f, hollow(collapsed(6), collapsed(6, -2)))
	}
}

// What a box is as a child, with margins of 6 and -2 of its own.
func TestAsChild(t *testing.T) {
	ten, gap := inner(1), node(1, margins(-4, 12))
	for _, c := range []struct {
		name    string
		special []change
		kids    []api.Node
		want    pile.Child
	}{
		{"hollow", nil, nil, hollow(collapsed(6), collapsed(6, -2))},
		{"hollow with a child", nil, []api.Node{gap}, hollow(collapsed(6, -4, 12), collapsed(6, -4, 12, -2))},
		{"hollow with two children", nil, []api.Node{gap, node(1, margins(20, -9))}, hollow(collapsed(20, -9), collapsed(20, -9))},
		{"hollow with children below it", nil, []api.Node{gap, node(2, margins(3, -8))}, hollow(collapsed(12, -8), collapsed(12, -8))},
		{"without children", []change{height(units(30))}, nil, solid(collapsed(6), collapsed(-2), 30)},
		{"without children, with a minimum", []change{minH(units(30))}, nil, solid(collapsed(6), collapsed(-2), 30)},
		{"without children, independent", []change{clip}, nil, solid(collapsed(6), collapsed(-2), 0)},
		{"open", nil, []api.Node{ten}, solid(collapsed(6, 5), collapsed(-2, 7), 10)},
		{"closed at its top", []change{border(api.Top, 1)}, []api.Node{ten}, solid(collapsed(6), collapsed(-2, 7), 16)},
		{"closed at its bottom", []change{pad(api.Bottom, units(2))}, []api.Node{ten}, solid(collapsed(6), collapsed(-2), 19)},
		{"closed", []change{pad(api.Top, units(3)), border(api.Bottom, 4)}, []api.Node{ten}, solid(collapsed(6), collapsed(-2), 29)},
		{"independent", []change{clip}, []api.Node{ten}, solid(collapsed(6), collapsed(-2), 22)},
		{"of a given height", []change{height(units(3))}, []api.Node{ten}, solid(collapsed(6), collapsed(-2), 3)},
		{"with a minimum", []change{minH(units(3))}, []api.Node{ten}, solid(collapsed(6), collapsed(-2), 17)},
		{"with a maximum", []change{maxH(units(3))}, []api.Node{ten}, solid(collapsed(6), collapsed(-2, 7), 3)},
		{"a gap first", nil, []api.Node{gap, ten}, solid(collapsed(6, -4, 12), collapsed(-2, 7), 10)},
		{"a gap last", nil, []api.Node{ten, gap}, solid(collapsed(6, 5), collapsed(-2, 12, -4), 10)},
		{"gaps alone, of height 0", []change{height(units(0))}, []api.Node{gap}, solid(collapsed(6, -4, 12), collapsed(-2), 0)},
		{"gaps alone, closed at its top", []change{border(api.Top, 1)}, []api.Node{gap}, solid(collapsed(6), collapsed(-2, -4, 12), 1)},
		{"gaps alone, closed at its bottom", []change{border(api.Bottom, 1)}, []api.Node{gap}, solid(collapsed(6, -4, 12), collapsed(-2), 1)},
		{"gaps alone, independent", []change{clip}, []api.Node{gap}, solid(collapsed(6), collapsed(-2), 8)},
		{"all that surrounds it", []change{border(api.Top, 1), pad(api.Top, units(2)), pad(api.Bottom, units(4)), border(api.Bottom, 8), height(units(16))}, nil, solid(collapsed(6), collapsed(-2), 31)},
		{"what surrounds it at its sides", []change{border(api.Left, 1), pad(api.Left, units(2)), pad(api.Right, units(4)), border(api.Right, 8), height(units(16))}, nil, solid(collapsed(6), collapsed(-2), 16)},
	} {
		box := append([]change{margins(6, -2)}, c.special...)
		l := append([]api.Node{node(-1), node(0, box...)}, c.kids...)
		f, _ := askBox(t, c.name, l, 1, wide)
		checkChild(t, c.name, f, c.want)
		// The frame in a list says the same.
		_, lay := askBox(t, c.name, l, 0, wide)
		checkChild(t, c.name, lay.L[0].F, c.want)
	}
}

// A box through which margins collapse is where it would be if its own bottom margin, and what follows that, were not there.
func TestPositionOfHollow(t *testing.T) {
	l := []api.Node{node(-1), node(0, height(units(10)), margins(0, 4)), node(0, margins(6, 20)), node(2, margins(1, 9)), node(0, margins(3, 30)), node(0, height(units(5)), margins(2, 0))}
	f, lay := askBox(t, "hollow", l, 0, wide)
	checkSpots(t, "hollow", lay.L, spot{1, 0, 0, 200, 10}, spot{2, 0, 19, 200, 0}, spot{3, 0, 0, 200, 0}, spot{4, 0, 30, 200, 0}, spot{5, 0, 40, 200, 5})
	if f.H != 45 {
		t.Errorf("hollow: %+v", f)
	}
	// At the top of a box that is open, they are all at its corner.
	l = []api.Node{node(-1), node(0, margins(2, 0)), node(1, margins(6, 20)), node(1, margins(3, 30)), node(1, height(units(5)), margins(2, 0))}
	_, lay = askBox(t, "at the top", l, 0, wide)
	checkSpots(t, "at the top", lay.L, spot{1, 0, 30, 200, 5}, spot{2, 0, 0, 200, 0}, spot{3, 0, 0, 200, 0}, spot{4, 0, 0, 200, 5})
}

// Margins on several levels adjoin: the greatest positive and the least negative one of all of them count.
func TestLevels(t *testing.T) {
	tower := func(parent, at int) []api.Node {
		return []api.Node{
			node(parent, margins(1, 2)), node(at, margins(9, -6)), node(at+1, margins(-3, 8)), node(at+2, margins(5, -1)), node(at+3, margins(-7, 4), height(units(10))),
		}
	}
	l := append([]api.Node{node(-1)}, tower(0, 1)...)
	l = append(l, tower(0, 6)...)
	f, lay := askBox(t, "towers", l, 0, wide)
	// 9 - 7 above, 9 - 7 between (of 2, -6, 8, -1, 4 and the five above), and 8 - 6 below.
	var want []spot
	for n, y := range []int64{2, 0, 0, 0, 0, 14, 0, 0, 0, 0} {
		want = append(want, spot{n + 1, 0, y, 200, 10})
	}
	checkSpots(t, "towers", lay.L, want...)
	if f.H != 26 {
		t.Errorf("towers: %+v", f)
	}
	checkChild(t, "towers", lay.L[0].F, solid(collapsed(9, -7), collapsed(8, -6), 10))
	// A border in the middle of the first tower keeps apart what is above it and what is within it.
	l = with(l, 3, border(api.Top, 1))
	_, lay = askBox(t, "a border", l, 0, wide)
	checkChild(t, "a border", lay.L[0].F, solid(collapsed(9, -3), collapsed(8, -6), 1+8))
	checkSpots(t, "a border", lay.L[:5], spot{1, 0, 6, 200, 9}, spot{2, 0, 0, 200, 9}, spot{3, 0, 0, 200, 8}, spot{4, 0, -2, 200, 10}, spot{5, 0, 0, 200, 10})
	// The first tower without a height: margins of all of it collapse, through it too.
	l = with(with(l, 3, border(api.Top, 0)), 5, height(units(0)))
	f, lay = askBox(t, "no height", l, 0, wide)
	checkChild(t, "no height", lay.L[0].F, hollow(collapsed(9, -7), collapsed(9, -7)))
	if lay.L[5].F.Y != 2 || f.H != 14 {
		t.Errorf("no height: %+v", lay)
	}
}
