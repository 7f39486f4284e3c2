package flow

import (
	"slices"
	"testing"

	"decoupage/api"
	"decoupage/kin"
	"decoupage/size"
)

// absent are kinds of nodes that are not in the flow.
func absent() [][]change {
	return [][]change{{hidden}, {absolute}, {position(api.Fixed)}, {hidden, absolute}}
}

// Nodes that generate no box, or one out of the flow, have no influence, and neither has what is within them.
func TestNotInTheFlow(t *testing.T) {
	present := []api.Node{node(-1), node(0, margins(5, 7)), node(1, height(units(10)), margins(9, -3)), node(0, margins(4, 6)), node(0, height(units(20)), margins(-2, 8))}
	_, want := askBox(t, "present", present, 0, wide)
	checkSpots(t, "present", want.L, spot{1, 0, 9, 200, 10}, spot{2, 0, 0, 200, 10}, spot{3, 0, 23, 200, 0}, spot{4, 0, 23, 200, 20})
	for _, kind := range absent() {
		big := append([]change{margins(100, 100), height(units(500)), width(units(900)), border(api.Top, 50)}, kind...)
		l := []api.Node{
			node(-1), node(0, big...), node(1, margins(70, 70), height(units(60))),
			node(0, margins(5, 7)), node(3, big...), node(3, height(units(10)), margins(9, -3)), node(5, big...), node(6, big...), node(3, big...),
			node(0, big...), node(9, margins(70, 70), height(units(60))), node(10, height(units(60))),
			node(0, margins(4, 6)), node(12, big...), node(13, height(units(60))), node(0, height(units(20)), margins(-2, 8)), node(0, big...),
		}
		f, got := askBox(t, "absent", l, 0, wide)
		checkSpots(t, "absent", got.L, spot{3, 0, 9, 200, 10}, spot{5, 0, 0, 200, 10}, spot{12, 0, 23, 200, 0}, spot{15, 0, 23, 200, 20})
		if got.High != want.High || f.H != want.High || !slices.Equal(got.Pile.Y, want.Pile.Y) {
			t.Errorf("absent: %+v instead of %+v", got, want)
		}
		for i := range got.L {
			if got.L[i].F != want.L[i].F {
				t.Errorf("absent: %+v instead of %+v", got.L[i], want.L[i])
			}
		}
	}
}

// What is in the flow within a box out of the flow is laid out with that box alone.
func TestInFlowOfWhatIsOut(t *testing.T) {
	l := []api.Node{node(-1), node(0, absolute), node(1, height(units(10)), margins(5, 7)), node(2, margins(3, 3)), node(1, absolute), node(4, height(units(4)))}
	_, lay := askBox(t, "first", l, 0, wide)
	checkSpots(t, "first", lay.L)
	lay = askInside(t, "1", l, 1, 200, auto)
	checkSpots(t, "1", lay.L, spot{2, 0, 5, 200, 10}, spot{3, 0, 0, 200, 0})
	lay = askInside(t, "4", l, 4, 200, auto)
	checkSpots(t, "4", lay.L, spot{5, 0, 0, 200, 4})
	_, lay = askBox(t, "1 as a box", l, 1, wide)
	checkSpots(t, "1 as a box", lay.L, spot{2, 0, 0, 200, 10}, spot{3, 0, 0, 200, 0})
}

// A tree has the same layout without the nodes that are not in the flow.
func TestRemoved(t *testing.T) {
	d := draw(142)
	removed := 0
	for range 1500 {
		l := d.tree(16, smallNumbers())
		in := room{d.oneOf(37, 100, 250), auto, d.below(2) == 0}
		f, lay := askBox(t, "all", l, 0, in)
		kept, olds := inFlowAlone(l)
		removed += len(l) - len(kept)
		f2, lay2 := askBox(t, "kept", kept, 0, in)
		for i := range lay2.L {
			lay2.L[i].N = olds[lay2.L[i].N]
		}
		if f != f2 || !sameLay(lay, lay2) {
			t.Fatalf("%+v: %+v, %+v with them and %+v, %+v without", l, f, lay, f2, lay2)
		}
	}
	if removed < 1000 {
		t.Error("removed:", removed)
	}
}

// inFlowAlone is the list without the nodes that are not in the flow and what is below them, and what the index of each one was.
func inFlowAlone(l []api.Node) (kept []api.Node, olds []int) {
	c := chapter{l, -1}
	news := map[int]int{-1: -1}
	for n, x := range l {
		parent, ok := news[x.Parent]
		if !ok || !c.inFlow(n) {
			continue
		}
		news[n] = len(kept)
		kept = append(kept, api.Node{S: x.S, Parent: parent})
		olds = append(olds, n)
	}
	return kept, olds
}

// Inside lays out the content for the size that is given: the node's own sizes, margins and paddings have no influence.
func TestInside(t *testing.T) {
	own := []change{height(units(500)), minH(units(600)), width(units(700)), minW(units(800)), margins(40, 50), pad(api.Left, part(5000)), pad(api.Top, units(7)), border(api.Bottom, 9)}
	for _, kind := range [][]change{{absolute}, {position(api.Fixed)}, {absolute, clip}} {
		for _, special := range [][]change{kind, append(slices.Clone(kind), own...)} {
			l := []api.Node{node(-1), node(0, special...), node(1, height(part(5000)), margins(5, 7)), node(1, height(units(10)), width(part(2500)), margins(3, 4), margin(api.Left, units(6)))}
			lay := askInside(t, "auto", l, 1, 200, auto)
			checkSpots(t, "auto", lay.L, spot{2, 0, 5, 200, 0}, spot{3, 6, 7, 50, 10})
			if lay.High != 21 || lay.L[0].F.Known {
				t.Errorf("auto: %+v", lay)
			}
			lay = askInside(t, "known", l, 1, 100, known(60))
			checkSpots(t, "known", lay.L, spot{2, 0, 5, 100, 30}, spot{3, 6, 42, 25, 10})
			// The height of the content is what it is, for whatever height it was laid out.
			if lay.High != 56 || !lay.L[0].F.Known {
				t.Errorf("known: %+v", lay)
			}
			lay = askInside(t, "0", l, 1, 0, known(0))
			checkSpots(t, "0", lay.L, spot{2, 0, 5, 0, 0}, spot{3, 6, 7, 0, 10})
		}
	}
	l := []api.Node{node(-1), node(0, rtl), node(1, absolute), node(2, width(units(30)), margin(api.Left, units(5)), margin(api.Right, units(4)))}
	if f := askInside(t, "left to right", l, 2, 200, auto).L[0].F; f.X != 5 {
		t.Errorf("left to right: %+v", f)
	}
	if f := askInside(t, "right to left", with(l, 2, rtl), 2, 200, auto).L[0].F; f.X != 166 {
		t.Errorf("right to left: %+v", f)
	}
	lay := askInside(t, "nothing", []api.Node{node(-1), node(0, absolute)}, 1, 9, auto)
	if !sameLay(lay, Lay{}) {
		t.Errorf("nothing: %+v", lay)
	}
}

// among is a tree whose node 0 has the children that are asked for: n is out of the flow, and the others are 10 high with margins of 3 and 4.
func among(before, behind int, special ...change) (l []api.Node, n int) {
	l = []api.Node{node(-1)}
	for range before {
		l = append(l, node(0, height(units(10)), margins(3, 4)))
	}
	n = len(l)
	l = append(l, node(0, append([]change{absolute}, special...)...))
	for range behind {
		l = append(l, node(0, height(units(10)), margins(3, 4)))
	}
	return l, n
}

func TestWithPlaces(t *testing.T) {
	solid, gap := []change{height(units(6)), margins(9, 2)}, []change{margins(9, 20)}
	for _, c := range []struct {
		name           string
		before, behind int
		special        []change
		open           bool
		y              int64
	}{
		{"only", 0, 0, solid, false, 9},
		{"only, open", 0, 0, solid, true, 0},
		{"first", 0, 2, solid, false, 9},
		{"first, open", 0, 2, solid, true, 0},
		{"middle", 1, 1, solid, false, 22},
		{"middle, open", 1, 1, solid, true, 19},
		{"later", 2, 1, solid, false, 3 + 10 + 4 + 10 + 9},
		{"last", 2, 0, solid, false, 3 + 10 + 4 + 10 + 9},
		{"last, open", 2, 0, solid, true, 10 + 4 + 10 + 9},
		{"hollow, only", 0, 0, gap, false, 9},
		{"hollow, only, open", 0, 0, gap, true, 0},
		{"hollow, first", 0, 1, gap, false, 9},
		{"hollow, first, open", 0, 1, gap, true, 0},
		{"hollow, middle", 1, 1, gap, false, 22},
		{"hollow, middle, open", 1, 1, gap, true, 19},
		{"hollow, last", 1, 0, gap, false, 22},
	} {
		for _, p := range []int{api.Absolute, api.Fixed} {
			l, n := among(c.before, c.behind, c.special...)
			l[n].S.Position = p
			f := askWith(t, c.name, l, n, 200, auto, c.open)
			if f.Y != c.y || f.W != 200 || f.Known != (l[n].S.Height != api.Len{}) {
				t.Errorf("%s: %+v instead of %d", c.name, f, c.y)
			}
		}
	}
}

// What With returns is the frame that Box of the parent has for the node if that is Static.
func TestWithIsBoxOfStatic(t *testing.T) {
	d := draw(143)
	asked := 0
	for range 3000 {
		l := d.tree(10, smallNumbers())
		c := chapter{l, -1}
		// A first node that is of no size, and one that is, have the same children in the same width.
		l[0].S.Width, l[0].S.MinW, l[0].S.MaxW, l[0].S.Margin = api.Len{}, api.Len{}, api.Len{}, [4]api.Len{}
		l[0].S.Height, l[0].S.MinH, l[0].S.MaxH = api.Len{}, api.Len{}, api.Len{}
		l[0].S.Pad, l[0].S.Border = node(-1).S.Pad, [4]int64{}
		for n := range l {
			if l[n].Parent != 0 || !c.out(n) {
				continue
			}
			asked++
			f := askWith(t, "out", l, n, 130, auto, false)
			_, lay := askBox(t, "static", with(l, n, position(api.Static)), 0, room{130, auto, false})
			at := slices.IndexFunc(lay.L, func(p Placed) bool { return p.N == n })
			if lay.L[at].F != f {
				t.Fatalf("%+v: With of %d is %+v instead of %+v", l, n, f, lay.L[at].F)
			}
		}
	}
	if asked < 1000 {
		t.Error("asked:", asked)
	}
}

// The box of With is not independent because of its Position.
func TestWithIsNotIndependent(t *testing.T) {
	kid := node(1, height(units(10)), margins(15, 7))
	l := []api.Node{node(-1), node(0, absolute, margins(2, 3)), kid}
	f := askWith(t, "open", l, 1, 200, auto, false)
	checkChild(t, "open", f, solid(collapsed(15), collapsed(7), 10))
	if f.Y != 15 || f.H != 10 {
		t.Errorf("open: %+v", f)
	}
	f = askWith(t, "Clip", with(l, 1, clip), 1, 200, auto, false)
	checkChild(t, "Clip", f, solid(collapsed(2), collapsed(3), 32))
	if f.Y != 2 || f.H != 32 {
		t.Errorf("Clip: %+v", f)
	}
}

// Sizes of the box are parts of the size of the parent's content, which need not be what the parent's style says; the direction is the parent's.
func TestWithContainer(t *testing.T) {
	l, n := among(1, 1, width(part(2500)), height(part(5000)), margin(api.Top, part(1000)), margin(api.Left, units(6)), margin(api.Right, units(8)), minH(part(100)), maxH(part(9000)))
	f := askWith(t, "auto", l, n, 200, auto, false)
	if f.X != 6 || f.Y != 33 || f.W != 50 || f.H != 0 || f.Known {
		t.Errorf("auto: %+v", f)
	}
	f = askWith(t, "known", l, n, 200, known(60), false)
	if f.X != 6 || f.Y != 33 || f.W != 50 || f.H != 30 || !f.Known {
		t.Errorf("known: %+v", f)
	}
	f = askWith(t, "right to left", with(l, 0, rtl), n, 200, auto, false)
	if f.X != 142 || f.W != 50 {
		t.Errorf("right to left: %+v", f)
	}
	f = askWith(t, "own direction", with(l, n, rtl), n, 200, auto, false)
	if f.X != 6 {
		t.Errorf("own direction: %+v", f)
	}
	want := askWith(t, "plain parent", l, n, 200, known(60), true)
	styled := with(l, 0, width(units(5)), height(units(5)), clip, pad(api.Top, units(4)), border(api.Top, 3), border(api.Left, 3), minH(units(99)), maxW(units(1)))
	if f = askWith(t, "styled parent", styled, n, 200, known(60), true); f != want {
		t.Errorf("styled parent: %+v instead of %+v", f, want)
	}
}

// No other node out of the flow has an influence on With, neither beside the node nor within it.
func TestWithAlone(t *testing.T) {
	l := []api.Node{
		node(-1), node(0, absolute, height(units(50)), margins(60, 60)), node(1, height(units(9))), node(0, height(units(10)), margins(3, 4)),
		node(0, absolute, margins(5, 6)), node(4, absolute, height(units(70)), margins(80, 80)), node(4, height(units(7)), margins(8, 1)),
		node(0, position(api.Fixed), height(units(50)), margins(60, 60)), node(0, hidden, height(units(30))), node(0, height(units(10))),
	}
	f := askWith(t, "alone", l, 4, 200, auto, false)
	if f.Y != 21 || f.H != 7 || f.Child != solid(collapsed(8), collapsed(6), 7) {
		t.Errorf("alone: %+v", f)
	}
	if f = askWith(t, "first", l, 1, 200, auto, false); f.Y != 60 || f.H != 50 {
		t.Errorf("first: %+v", f)
	}
	if f = askWith(t, "within", l, 5, 200, auto, true); f.Y != 0 || f.H != 70 {
		t.Errorf("within: %+v", f)
	}
	if f = askWith(t, "behind", l, 7, 200, auto, true); f.Y != 70 {
		t.Errorf("behind: %+v", f)
	}
}

// Nodes that are not, or of which there is no such box.
func TestNoAnswer(t *testing.T) {
	l := []api.Node{node(-1), node(0), node(0, absolute), node(2), node(0, hidden), node(4, absolute), node(4), node(0, absolute, hidden), node(0, position(api.Relative))}
	k := of(t, "no answer", l)
	indices := []int{-1, -2, len(l), len(l) + 1, 1 << 31, 1 << 32, 1<<32 + 2, -1 << 32, int(minInt), int(minInt) + 1, int(maxInt)}
	for _, n := range append(indices, 4, 5, 6, 7) {
		noBox(t, "no box", k, n, wide)
		noInside(t, "no box", k, n, 200, auto)
		noWith(t, "no box", k, n, 200, auto)
	}
	for _, n := range []int{0, 1, 3, 8} {
		askBox(t, "in the flow", l, n, wide)
		noInside(t, "in the flow", k, n, 200, auto)
		noWith(t, "in the flow", k, n, 200, auto)
	}
	for _, p := range []int{api.Absolute, api.Fixed} {
		noInside(t, "first", of(t, "first", with(l, 0, position(p))), 0, 200, auto)
		noWith(t, "first", of(t, "first", with(l, 0, position(p))), 0, 200, auto)
		askBox(t, "first", with(l, 0, position(p)), 0, wide)
	}
	askBox(t, "out", l, 2, wide)
	askInside(t, "out", l, 2, 200, auto)
	askWith(t, "out", l, 2, 200, auto, true)
	for _, k := range []*kin.Kin{nil, of(t, "hidden", with(l, 0, hidden)), {}} {
		for _, n := range append(indices, 0, 1, 2, 3) {
			noBox(t, "no nodes", k, n, wide)
			noInside(t, "no nodes", k, n, 200, auto)
			noWith(t, "no nodes", k, n, 200, auto)
		}
	}
}

// The size of a container, at the ends of its range and beyond them.
func TestRange(t *testing.T) {
	l := []api.Node{node(-1), node(0, absolute, height(part(5000))), node(1, height(part(10000)))}
	k := of(t, "range", l)
	for _, w := range []int64{0, 1, maxUnit - 1, maxUnit} {
		for _, h := range []int64{0, 1, maxUnit - 1, maxUnit} {
			f, lay := askBox(t, "range", l, 1, room{w, known(h), false})
			if f.W != w || f.H != h/2 || lay.L[0].F.W != w || lay.L[0].F.H != h/2 {
				t.Errorf("in %d, %d: %+v, %+v", w, h, f, lay)
			}
			if lay := askInside(t, "range", l, 1, w, known(h)); lay.L[0].F.W != w || lay.L[0].F.H != h {
				t.Errorf("in %d, %d: %+v", w, h, lay)
			}
			if f := askWith(t, "range", l, 1, w, known(h), false); f.W != w || f.H != h/2 {
				t.Errorf("in %d, %d: %+v", w, h, f)
			}
		}
	}
	for _, n := range []int64{-1, -2, maxUnit + 1, maxUnit + 2, -maxUnit, -maxUnit - 1, minInt, minInt + 1, maxInt - 1, maxInt} {
		for _, c := range []struct {
			w int64
			h size.Size
		}{{n, auto}, {n, known(5)}, {5, known(n)}, {n, known(n)}, {0, known(n)}, {n, known(0)}} {
			noBox(t, "range", k, 0, room{c.w, c.h, false})
			noBox(t, "range", k, 1, room{c.w, c.h, true})
			noInside(t, "range", k, 1, c.w, c.h)
			noWith(t, "range", k, 1, c.w, c.h)
		}
	}
}

// The number of a height that is auto has no influence.
func TestNumberOfAuto(t *testing.T) {
	l := []api.Node{node(-1, height(part(5000))), node(0, absolute, height(part(5000)), minH(part(10))), node(1, height(part(5000)), maxH(part(10))), node(0, height(part(5000)), margins(5, 7)), node(3, height(units(10)))}
	f, lay := askBox(t, "auto", l, 0, wide)
	inside, beside := askInside(t, "auto", l, 1, 200, auto), askWith(t, "auto", l, 1, 200, auto, true)
	for _, n := range []int64{1, -1, 50, maxUnit, maxUnit + 1, -maxUnit - 1, minInt, maxInt} {
		odd := size.Size{Auto: true, N: n}
		f2, lay2 := askBox(t, "number", l, 0, room{200, odd, false})
		if f2 != f || !sameLay(lay2, lay) || !sameLay(askInside(t, "number", l, 1, 200, odd), inside) || askWith(t, "number", l, 1, 200, odd, true) != beside {
			t.Errorf("another answer for %d", n)
		}
	}
}
