package flow

import (
	"testing"

	"decoupage/api"
	"decoupage/size"
)

// limit is a box, with what is in it, in which something just fits for an extra of 0 and does not for one of 1.
type limit struct {
	name string
	w    int64
	h    size.Size
	rtl  bool
	// of is the box as node 0 of its list, whose parent is not said.
	of func(extra int64) []api.Node
}

// one is a box without children.
func one(special func(extra int64) []change) func(extra int64) []api.Node {
	return func(extra int64) []api.Node { return []api.Node{node(-1, special(extra)...)} }
}

// below puts the list of a box below the last node of l.
func below(l, box []api.Node) []api.Node {
	at := len(l)
	for n, x := range box {
		x.Parent += at
		if n == 0 {
			x.Parent = at - 1
		}
		l = append(l, x)
	}
	return l
}

// check asks each function where the box is the one that is asked for, a child of that, deep within it, or beside it.
func (c limit) check(t *testing.T, extra int64) {
	t.Helper()
	in, want := room{c.w, c.h, c.rtl}, extra == 0
	around := []change{func(s *api.Style) { s.RTL = c.rtl }}
	if !c.h.Auto {
		// A box whose height is a part of what is known has a known height, too.
		around = append(around, height(part(10000)))
	}
	box := c.of(extra)
	l := below([]api.Node{node(-1, around...)}, box)
	c.checkBox(t, "itself", l, 1, in, want)
	c.checkBox(t, "a child", l, 0, in, want)
	deep := []api.Node{node(-1, around...)}
	for n := range 8 {
		deep = append(deep, node(n, around...))
	}
	c.checkBox(t, "deep", below(deep, box), 0, in, want)
	out := below([]api.Node{node(-1), node(0, append(around, absolute)...)}, box)
	c.checkInside(t, "a child", out, 1, want)
	for _, first := range []bool{true, false} {
		// The node that is out of the flow, as an empty one, precedes the box or follows it.
		beside := []api.Node{node(-1, around...)}
		if first {
			beside = append(beside, node(0, absolute))
			for n, x := range box {
				if x.Parent += 2; n == 0 {
					x.Parent = 0
				}
				beside = append(beside, x)
			}
			c.checkWith(t, "behind", beside, 1, want)
		} else {
			beside = append(below(beside, box), node(0, absolute))
			c.checkWith(t, "ahead", beside, len(beside)-1, want)
		}
	}
	c.checkWith(t, "itself", with(l, 1, absolute), 1, want)
}

func (c limit) checkBox(t *testing.T, name string, l []api.Node, n int, in room, want bool) {
	t.Helper()
	if want {
		askBox(t, c.name+", "+name, l, n, in)
	} else {
		noBox(t, c.name+", "+name, of(t, c.name, l), n, in)
	}
}

func (c limit) checkInside(t *testing.T, name string, l []api.Node, n int, want bool) {
	t.Helper()
	if want {
		askInside(t, c.name+", "+name, l, n, c.w, c.h)
	} else {
		noInside(t, c.name+", "+name, of(t, c.name, l), n, c.w, c.h)
	}
}

func (c limit) checkWith(t *testing.T, name string, l []api.Node, n int, want bool) {
	t.Helper()
	if want {
		askWith(t, c.name+", "+name, l, n, c.w, c.h, false)
		askWith(t, c.name+", "+name, l, n, c.w, c.h, true)
	} else {
		noWith(t, c.name+", "+name, of(t, c.name, l), n, c.w, c.h)
	}
}

func checkLimits(t *testing.T, all []limit) {
	t.Helper()
	for _, c := range all {
		for _, extra := range []int64{0, 1, 2} {
			c.check(t, extra)
		}
	}
}

// Each size of layer 9, also where nothing asks for it any more.
func TestSizesFit(t *testing.T) {
	at, no, yes := maxUnit, auto, known(maxUnit)
	checkLimits(t, []limit{
		{"top margin", at, no, false, one(func(e int64) []change { return []change{margin(api.Top, part(10000+e))} })},
		{"bottom margin", at, no, false, one(func(e int64) []change { return []change{margin(api.Bottom, part(10000+e))} })},
		{"left margin", at, no, false, one(func(e int64) []change { return []change{margin(api.Left, part(10000+e))} })},
		{"right margin", at, no, false, one(func(e int64) []change { return []change{margin(api.Right, part(10000+e))} })},
		{"negative top margin", at, no, false, one(func(e int64) []change { return []change{margin(api.Top, part(-10000-e))} })},
		{"negative bottom margin", at, no, false, one(func(e int64) []change { return []change{margin(api.Bottom, part(-10000-e))} })},
		{"negative left margin", at, no, true, one(func(e int64) []change {
			return []change{margin(api.Left, part(-10000-e)), width(units(0)), margin(api.Right, units(1))}
		})},
		{"negative right margin", at, no, false, one(func(e int64) []change {
			return []change{margin(api.Right, part(-10000-e)), width(units(0)), margin(api.Left, units(1))}
		})},
		{"top padding", at, no, false, one(func(e int64) []change { return []change{pad(api.Top, part(10000+e))} })},
		{"right padding", at, no, false, one(func(e int64) []change { return []change{pad(api.Right, part(10000+e))} })},
		{"bottom padding", at, no, false, one(func(e int64) []change { return []change{pad(api.Bottom, part(10000+e))} })},
		{"left padding", at, no, false, one(func(e int64) []change { return []change{pad(api.Left, part(10000+e))} })},
		{"Width", at, no, false, one(func(e int64) []change { return []change{width(part(10000 + e))} })},
		{"Width above a maximum", at, no, false, one(func(e int64) []change { return []change{width(part(10000 + e)), maxW(units(5))} })},
		{"MinW", at, no, false, one(func(e int64) []change { return []change{minW(part(10000 + e))} })},
		{"MaxW", at, no, false, one(func(e int64) []change { return []change{maxW(part(10000 + e)), width(units(5))} })},
		{"Height", 9, yes, false, one(func(e int64) []change { return []change{height(part(10000 + e))} })},
		{"Height above a maximum", 9, yes, false, one(func(e int64) []change { return []change{height(part(10000 + e)), maxH(units(5))} })},
		{"MinH", 9, yes, false, one(func(e int64) []change { return []change{minH(part(10000 + e))} })},
		{"MaxH", 9, yes, false, one(func(e int64) []change { return []change{maxH(part(10000 + e)), height(units(5))} })},
	})
}

// A width of half the limit is where twice that just fits, and there are no sizes in between.
func TestBaseOfSizes(t *testing.T) {
	l := []api.Node{node(-1), node(0, margin(api.Top, part(20000)))}
	f, _ := askBox(t, "half", l, 1, room{maxUnit / 2, auto, false})
	if f.Margin[api.Top] != maxUnit {
		t.Errorf("half: %+v", f)
	}
	noBox(t, "more than half", of(t, "more", l), 1, room{maxUnit/2 + 1, auto, false})
	l = with(l, 1, margins(0, 0), height(part(20000)))
	f, _ = askBox(t, "half", l, 1, room{0, known(maxUnit / 2), false})
	if f.H != maxUnit {
		t.Errorf("half: %+v", f)
	}
	noBox(t, "more than half", of(t, "more", l), 1, room{0, known(maxUnit/2 + 1), false})
	f, _ = askBox(t, "auto", l, 1, room{0, size.Size{Auto: true, N: maxUnit}, false})
	if f.H != 0 {
		t.Errorf("auto: %+v", f)
	}
}

// Results of layer 13.
func TestWidthsFit(t *testing.T) {
	at, no := maxUnit, auto
	checkLimits(t, []limit{
		{"auto width", at, no, false, one(func(e int64) []change { return []change{margin(api.Left, units(-e))} })},
		{"auto width above a maximum", at, no, false, one(func(e int64) []change { return []change{margin(api.Right, units(-e)), maxW(units(5))} })},
		{"right margin", at, no, false, one(func(e int64) []change { return []change{margin(api.Left, units(-e)), width(units(0))} })},
		{"left margin", at, no, true, one(func(e int64) []change { return []change{margin(api.Right, units(-e)), width(units(0))} })},
		{"negative right margin", at, no, false, one(func(e int64) []change {
			return []change{margin(api.Left, part(10000)), width(part(10000)), border(api.Left, e)}
		})},
		{"negative left margin", at, no, true, one(func(e int64) []change {
			return []change{margin(api.Right, part(10000)), width(part(10000)), border(api.Left, e)}
		})},
	})
}

// The surroundings of a box, also where there is room for them.
func TestSurroundingsFit(t *testing.T) {
	at, no := maxUnit, auto
	checkLimits(t, []limit{
		{"left border", at, no, false, one(func(e int64) []change {
			return []change{pad(api.Left, part(5000)), pad(api.Right, part(5000)), border(api.Left, e)}
		})},
		{"right border", at, no, false, one(func(e int64) []change {
			return []change{pad(api.Left, part(2500)), pad(api.Right, part(7500)), border(api.Right, e)}
		})},
		{"left padding", at, no, false, one(func(e int64) []change { return []change{pad(api.Left, units(e)), pad(api.Right, part(10000))} })},
		{"right padding", at, no, false, one(func(e int64) []change { return []change{pad(api.Left, part(10000)), pad(api.Right, units(e))} })},
		{"with room", at, no, false, one(func(e int64) []change {
			return []change{pad(api.Left, part(10000)), border(api.Right, e), margin(api.Left, part(-10000)), width(units(0))}
		})},
	})
}

// The height of a border box.
func TestHeightsFit(t *testing.T) {
	at, no, yes := maxUnit, auto, known(maxUnit)
	checkLimits(t, []limit{
		{"top border", at, no, false, one(func(e int64) []change {
			return []change{pad(api.Top, part(5000)), pad(api.Bottom, part(5000)), border(api.Top, e)}
		})},
		{"bottom border", at, no, false, one(func(e int64) []change { return []change{pad(api.Top, part(10000)), border(api.Bottom, e)} })},
		{"top padding", 9, yes, false, one(func(e int64) []change { return []change{height(part(10000)), pad(api.Top, units(e))} })},
		{"bottom padding", 9, yes, false, one(func(e int64) []change { return []change{minH(part(10000)), pad(api.Bottom, units(e))} })},
		{"height", at, no, false, one(func(e int64) []change { return []change{pad(api.Top, part(10000)), height(units(e))} })},
		{"content", at, no, false, func(e int64) []api.Node {
			return []api.Node{node(-1, pad(api.Top, part(10000))), node(0, height(units(e)))}
		}},
	})
}

// Results of layer 12, and the height of a content, also where the height of the box is given.
func TestPilesFit(t *testing.T) {
	at, no, yes := maxUnit, auto, known(maxUnit)
	whole := pad(api.Top, part(10000))
	checkLimits(t, []limit{
		{"edge", 9, yes, false, func(e int64) []api.Node {
			return []api.Node{node(-1, height(part(10000))), node(0, height(part(5000))), node(0, height(part(5000))), node(0, height(units(e)))}
		}},
		{"edge in a low box", at, no, false, func(e int64) []api.Node {
			return []api.Node{node(-1, height(units(5))), node(0, whole), node(0, height(units(e)))}
		}},
		{"edge in a box with a maximum", at, no, false, func(e int64) []api.Node {
			return []api.Node{node(-1, maxH(units(5))), node(0, whole), node(0, height(units(e)))}
		}},
		{"position", at, no, false, func(e int64) []api.Node {
			return []api.Node{node(-1, clip), node(0, height(units(e))), node(0, clip, margin(api.Top, part(10000)))}
		}},
		{"position of a hollow box", at, no, false, func(e int64) []api.Node {
			return []api.Node{node(-1, clip), node(0, height(units(e))), node(0, margin(api.Top, part(10000)))}
		}},
		{"negative position", at, no, false, func(e int64) []api.Node {
			return []api.Node{node(-1, clip), node(0, clip, margin(api.Top, part(-10000))), node(0, clip, margin(api.Top, units(-e)))}
		}},
		{"content", at, no, false, func(e int64) []api.Node {
			return []api.Node{node(-1, clip), node(0, whole, margins(0, e))}
		}},
		{"content with a margin below it", at, no, false, func(e int64) []api.Node {
			return []api.Node{node(-1, clip), node(0, whole, margins(0, -7)), node(0, margins(e+7, 0))}
		}},
		{"content of a low box", at, no, false, func(e int64) []api.Node {
			return []api.Node{node(-1, height(units(5))), node(0, whole, margins(0, e))}
		}},
		{"content of a box with a maximum", at, no, false, func(e int64) []api.Node {
			return []api.Node{node(-1, clip, maxH(units(5))), node(0, whole, margins(0, e))}
		}},
	})
}

// A bottom margin counts for the height of a content only where the bottom is closed, and for With it is, whatever the parent's is.
func TestOpenBottomFits(t *testing.T) {
	for _, e := range []int64{0, 1, 2} {
		l := []api.Node{node(-1), node(0), node(1, pad(api.Top, part(10000)), margins(0, e)), node(1, absolute)}
		in := room{maxUnit, auto, false}
		if f, lay := askBox(t, "open", l, 1, in); f.H != maxUnit || lay.High != maxUnit {
			t.Errorf("open: %+v", f)
		}
		closed := with(l, 1, border(api.Bottom, 1), maxH(units(5)))
		moved := with(l, 1, absolute)
		itself := with(with(l, 2, absolute), 3, hidden)
		if e == 0 {
			askBox(t, "within", l, 0, in)
			askBox(t, "closed", closed, 1, in)
			askInside(t, "inside", moved, 1, in.w, in.h)
			askWith(t, "with", l, 3, in.w, in.h, true)
			askWith(t, "with itself", itself, 2, in.w, in.h, true)
			continue
		}
		noBox(t, "within", of(t, "within", l), 0, in)
		noBox(t, "closed", of(t, "closed", closed), 1, in)
		noInside(t, "inside", of(t, "inside", moved), 1, in.w, in.h)
		noWith(t, "with", of(t, "with", l), 3, in.w, in.h)
		noWith(t, "with itself", of(t, "with itself", itself), 2, in.w, in.h)
	}
}

// At the top, the height of a content is 0, whatever margins there are.
func TestAtTheTopFits(t *testing.T) {
	l := []api.Node{node(-1), node(0), node(1, margin(api.Top, part(10000)), margin(api.Bottom, part(-10000))), node(1, absolute, margin(api.Bottom, part(10000)))}
	f, lay := askBox(t, "at the top", l, 1, room{maxUnit, auto, false})
	if lay.High != 0 || f.Child.Top != collapsed(maxUnit, -maxUnit) {
		t.Errorf("at the top: %+v, %+v", f, lay)
	}
	if f := askWith(t, "at the top", l, 3, maxUnit, auto, true); f.Y != 0 {
		t.Errorf("at the top: %+v", f)
	}
}

// A content whose last box ends above its corner has no height, and 0 fits, however far above that is.
func TestFarAboveFits(t *testing.T) {
	for _, e := range []int64{0, 1, api.MaxLen} {
		l := []api.Node{node(-1), node(0, clip), node(1, absolute), node(1, clip, margin(api.Top, part(-10000)), margin(api.Bottom, units(-e)))}
		f, lay := askBox(t, "far above", l, 1, room{maxUnit, auto, false})
		if f.H != 0 || lay.High != 0 || lay.L[0].F.Y != -maxUnit || lay.Pile.Edge != -maxUnit {
			t.Errorf("far above: %+v, %+v", f, lay)
		}
		if f := askWith(t, "far above", l, 2, maxUnit, auto, false); f.Y != 0 {
			t.Errorf("far above: %+v", f)
		}
	}
}

// Where the node itself is not laid out, its own sizes need not fit.
func TestOwnSizesOfOthersFit(t *testing.T) {
	wild := []change{margin(api.Top, part(10001)), width(part(10001)), height(part(10001)), pad(api.Left, part(10001)), pad(api.Top, part(10001)), minH(part(10001))}
	l := []api.Node{node(-1, wild...), node(0, append(wild, absolute)...), node(1, height(units(4))), node(1, absolute, height(units(9))), node(0, append(wild, hidden)...), node(0, absolute)}
	at := maxUnit
	if lay := askInside(t, "inside", l, 1, at, known(at)); lay.High != 4 {
		t.Errorf("inside: %+v", lay)
	}
	if f := askWith(t, "parent", l, 3, at, known(at), false); f.Y != 4 || f.H != 9 {
		t.Errorf("parent: %+v", f)
	}
	// Neither do those of what is not in the flow.
	if f := askWith(t, "siblings", l, 5, at, known(at), false); f.Y != 0 || f.W != at {
		t.Errorf("siblings: %+v", f)
	}
	noWith(t, "itself", of(t, "itself", l), 1, at, known(at))
	noBox(t, "itself", of(t, "itself", l), 1, room{at, known(at), false})
}
