package prefer

import (
	"testing"

	"decoupage/api"
	"decoupage/kin"
)

func TestExample(t *testing.T) {
	l := []api.Node{node(-1), node(0, wide(10), margin(api.Left, units(3)), margin(api.Right, units(3)))}
	check(t, "example", l, 0, 16)
	check(t, "example", l, 1, 10)
}

// A Width counts if it is in units, and then nothing within the box does.
func TestWidth(t *testing.T) {
	within := func(w api.Len) []api.Node { return []api.Node{node(-1), node(0, width(w)), node(1, wide(20))} }
	for _, c := range []struct {
		name string
		w    api.Len
		want int64
	}{
		{"none", units(0), 0},
		{"one unit", units(1), 1},
		{"less than within", units(19), 19},
		{"more than within", units(21), 21},
		{"greatest", units(maxLen), maxLen},
		{"auto", auto, 20},
		{"part", part(5000), 20},
		{"whole", part(10000), 20},
		{"no part", part(0), 20},
		{"greatest part", part(api.MaxPart), 20},
	} {
		check(t, c.name, within(c.w), 1, c.want)
		check(t, c.name, within(c.w), 0, c.want)
	}
	check(t, "first", []api.Node{node(-1, wide(7)), node(0, wide(20))}, 0, 7)
	check(t, "first", []api.Node{node(-1, width(part(7))), node(0, wide(20))}, 0, 20)
}

// Of several children the widest counts, wherever it is.
func TestGreatest(t *testing.T) {
	check(t, "no children", []api.Node{node(-1)}, 0, 0)
	check(t, "no children, a part", []api.Node{node(-1, width(part(5000)))}, 0, 0)
	check(t, "one", []api.Node{node(-1), node(0, wide(8))}, 0, 8)
	for _, widths := range [][]int64{{30, 20, 10}, {10, 30, 20}, {20, 10, 30}, {30, 30, 30}, {0, 0, 30}, {30, 0, 0}} {
		l := []api.Node{node(-1)}
		for _, w := range widths {
			l = append(l, node(0, wide(w)))
		}
		check(t, "three", l, 0, 30)
	}
	// The outer width counts, not that of the content.
	l := []api.Node{node(-1), node(0, wide(20)), node(0, wide(15), border(api.Left, 6)), node(0, wide(40), margin(api.Right, units(-21)))}
	check(t, "outer", l, 0, 21)
}

// Each of the things beside the content counts by itself, if it is horizontal and in units.
func TestAround(t *testing.T) {
	for side := range 4 {
		horizontal := side == api.Left || side == api.Right
		for _, c := range []struct {
			name  string
			what  change
			count int64
		}{
			{"margin", margin(side, units(3)), 3},
			{"no margin", margin(side, units(0)), 0},
			{"negative margin", margin(side, units(-4)), -4},
			{"part as margin", margin(side, part(5000)), 0},
			{"negative part as margin", margin(side, part(-5000)), 0},
			{"auto margin", margin(side, auto), 0},
			{"padding", pad(side, units(5)), 5},
			{"part as padding", pad(side, part(5000)), 0},
			{"border", border(side, 7), 7},
		} {
			want := int64(10)
			if horizontal {
				want += c.count
			}
			l := []api.Node{node(-1), node(0, wide(10), c.what)}
			check(t, c.name, l, 0, want)
			check(t, c.name, l, 1, 10)
			l = []api.Node{node(-1), node(0, c.what), node(1, wide(10))}
			check(t, c.name+" between", l, 0, want)
			check(t, c.name+" between", l, 1, 10)
		}
	}
	l := []api.Node{node(-1), node(0, wide(1), border(api.Left, 20), border(api.Right, 300))}
	l = with(l, 1, pad(api.Left, units(4000)), pad(api.Right, units(50000)), margin(api.Left, units(600000)), margin(api.Right, units(7000000)))
	check(t, "all", l, 0, 7654321)
	check(t, "some", with(l, 1, pad(api.Right, part(50000)), margin(api.Left, auto)), 0, 7004321)
}

// Other things of a style have no influence.
func TestOtherThings(t *testing.T) {
	other := func(s *api.Style) {
		s.Off = [4]api.Len{units(90), units(91), units(92), units(93)}
		s.Height, s.MinH, s.MaxH = units(94), units(95), units(96)
		s.RTL, s.HasZ, s.Z, s.Clip, s.Back, s.Line = true, true, 97, true, 98, 99
		s.Position = api.Relative
	}
	l := []api.Node{node(-1, other), node(0, other, margin(api.Left, units(2))), node(1, other, wide(10))}
	check(t, "other", l, 0, 12)
	check(t, "other", l, 1, 10)
	check(t, "other", l, 2, 10)
}

// An outer width below 0 makes nothing narrower than 0, and only that of the widest child is one.
func TestBelowNothing(t *testing.T) {
	narrow := margin(api.Left, units(-50))
	l := []api.Node{node(-1), node(0, wide(10), narrow)}
	check(t, "below", l, 0, 0)
	check(t, "below", with(l, 1, wide(49)), 0, 0)
	check(t, "nothing", with(l, 1, wide(50)), 0, 0)
	check(t, "above", with(l, 1, wide(51)), 0, 1)
	check(t, "two below", []api.Node{node(-1), node(0, narrow), node(0, wide(3), narrow)}, 0, 0)
	check(t, "beside", []api.Node{node(-1), node(0, narrow), node(0, wide(3))}, 0, 3)
	// The content of the child is 0 wide, not less, before its border is added.
	check(t, "within", []api.Node{node(-1), node(0, border(api.Left, 2)), node(1, narrow)}, 0, 2)
	check(t, "minimum within", []api.Node{node(-1), node(0, wide(10), minW(units(60)), narrow)}, 0, 10)
	check(t, "least", []api.Node{node(-1), node(0, margin(api.Left, units(-maxLen)), margin(api.Right, units(-maxLen)))}, 0, 0)
}

// The bounds clamp the content, not what is around it, on the node itself and on nodes within it.
func TestBounds(t *testing.T) {
	for _, c := range []struct {
		name        string
		least, most api.Len
		want        int64
	}{
		{"minimum", units(25), auto, 25},
		{"minimum as it is", units(20), auto, 20},
		{"minimum below", units(19), auto, 20},
		{"no minimum", units(0), auto, 20},
		{"greatest minimum", units(maxLen), auto, maxLen},
		{"maximum", auto, units(15), 15},
		{"maximum as it is", auto, units(20), 20},
		{"maximum above", auto, units(21), 20},
		{"maximum 0", auto, units(0), 0},
		{"greatest maximum", auto, units(maxLen), 20},
		{"both, between", units(12), units(28), 20},
		{"both, too wide", units(12), units(18), 18},
		{"both, too narrow", units(22), units(28), 22},
		{"minimum above maximum, below both", units(28), units(24), 28},
		{"minimum above maximum, between", units(28), units(12), 28},
		{"minimum above maximum, above both", units(14), units(12), 14},
		{"part as minimum", part(10000), auto, 20},
		{"greatest part as minimum", part(api.MaxPart), auto, 20},
		{"part as maximum", auto, part(1), 20},
		{"no part as maximum", auto, part(0), 20},
		{"parts", part(30), part(10), 20},
		{"minimum and part", units(25), part(10), 25},
		{"part and maximum", part(30), units(15), 15},
	} {
		bounds := func(s *api.Style) { s.MinW, s.MaxW = c.least, c.most }
		check(t, c.name, []api.Node{node(-1, wide(20), bounds)}, 0, c.want)
		l := []api.Node{node(-1, bounds), node(0, wide(13), margin(api.Right, units(7)))}
		check(t, c.name+" around", l, 0, c.want)
		check(t, c.name+" around", l, 1, 13)
		l = []api.Node{node(-1), node(0, wide(20), bounds, border(api.Left, 1), margin(api.Left, units(6)))}
		check(t, c.name+" of a child", l, 1, c.want)
		check(t, c.name+" of a child", l, 0, c.want+7)
		l = []api.Node{node(-1), node(0, border(api.Left, 2)), node(1, bounds, pad(api.Left, units(1))), node(2, wide(20))}
		check(t, c.name+" deep", l, 0, c.want+3)
	}
	check(t, "nothing within", []api.Node{node(-1, minW(units(9)))}, 0, 9)
	check(t, "nothing within", []api.Node{node(-1, maxW(units(9)))}, 0, 0)
	check(t, "nothing within", []api.Node{node(-1), node(0, minW(units(9)), margin(api.Left, units(-2)))}, 0, 7)
}

// Several levels: each adds what is around it to the widest of what is within it.
func TestLevels(t *testing.T) {
	l := []api.Node{
		node(-1, border(api.Left, 1000)),
		node(0, border(api.Left, 1)),
		node(1, pad(api.Left, units(20))),
		node(2, wide(300)),
		node(2, wide(290), margin(api.Left, units(15))),
		node(1, maxW(units(324)), margin(api.Right, units(2))),
		node(5, wide(5000)),
		node(0),
		node(7, minW(units(326))),
	}
	for n, want := range []int64{327, 326, 305, 300, 290, 324, 5000, 326, 326} {
		check(t, "levels", l, n, want)
	}
	check(t, "wider", with(l, 5, margin(api.Right, units(3))), 0, 328)
	check(t, "narrower", with(l, 5, margin(api.Right, units(0))), 0, 326)
	check(t, "between", with(l, 1, wide(40)), 0, 326)
	check(t, "between", with(l, 1, wide(40)), 1, 40)
}

// What generates no box, and what is out of the flow, has no influence, and neither has anything within it.
func TestNotInTheFlow(t *testing.T) {
	for _, c := range []struct {
		name string
		gone change
	}{{"hidden", hidden}, {"absolute", position(api.Absolute)}, {"fixed", position(api.Fixed)}} {
		check(t, c.name+", alone", []api.Node{node(-1), node(0, wide(70), c.gone)}, 0, 0)
		for _, l := range [][]api.Node{
			{node(-1), node(0, wide(70), c.gone), node(0, wide(5))},
			{node(-1), node(0, wide(5)), node(0, wide(70), minW(units(80)), border(api.Left, 3), c.gone)},
			{node(-1), node(0, c.gone), node(1, wide(70)), node(2, wide(90)), node(0, wide(5))},
			{node(-1), node(0, wide(5)), node(0, c.gone), node(2, wide(4)), node(2, wide(70))},
			{node(-1), node(0), node(1, wide(70), c.gone), node(1, wide(5))},
			{node(-1), node(0), node(1), node(2, c.gone), node(3, wide(70)), node(2, wide(5))},
		} {
			check(t, c.name, l, 0, 5)
		}
	}
	for _, p := range []int{api.Static, api.Relative} {
		check(t, "in the flow", []api.Node{node(-1), node(0, wide(70), position(p)), node(0, wide(5))}, 0, 70)
	}
}

// A node out of the flow has a width of its own, as has one within it.
func TestOutAsked(t *testing.T) {
	for _, p := range []int{api.Absolute, api.Fixed} {
		out := position(p)
		l := []api.Node{
			node(-1, out, margin(api.Left, units(9))),
			node(0, out, border(api.Right, 8)), node(1, wide(30), margin(api.Right, units(2))), node(1, out, wide(99)), node(3, wide(7)),
			node(0, out, wide(41)), node(0, out, minW(units(13))), node(0),
		}
		for n, want := range []int64{0, 32, 30, 99, 7, 41, 13, 0} {
			check(t, "out", l, n, want)
		}
		// The first node counts as Static, so that what is within it counts.
		check(t, "first", []api.Node{node(-1, out), node(0, wide(12))}, 0, 12)
	}
}

// Indices that are no nodes, and nodes that generate no box.
func TestNoAnswer(t *testing.T) {
	l := []api.Node{node(-1), node(0, wide(5)), node(0, hidden, wide(6)), node(2, wide(7)), node(3), node(2, position(api.Fixed), wide(8)), node(0, hidden, position(api.Absolute), minW(units(9)))}
	k := of(t, "no answer", l)
	for _, n := range indices(len(l)) {
		noContent(t, "no node", k, n)
		noContent(t, "no node", nil, n)
	}
	for _, n := range []int{2, 3, 4, 5, 6} {
		checkNone(t, "no box", l, n)
	}
	check(t, "beside", l, 0, 5)
	for n := range l {
		noContent(t, "nil", nil, n)
		checkNone(t, "nothing shown", with(l, 0, hidden), n)
	}
	noContent(t, "an error", mustFail(t), 0)
}

// mustFail is what Of of layer 8 returns beside an error.
func mustFail(t *testing.T) *kin.Kin {
	t.Helper()
	k, e := kin.Of([]api.Node{{Parent: -1}})
	if e != api.ErrForm {
		t.Fatal("a tree:", e)
	}
	return k
}
