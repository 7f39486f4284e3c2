package flow

import (
	"slices"
	"testing"

	"decoupage/across"
	"decoupage/api"
	"decoupage/fix"
	"decoupage/kin"
	"decoupage/pile"
	"decoupage/size"
	"decoupage/strut"
)

// room is the content of a container.
type room struct {
	w   int64
	h   size.Size
	rtl bool
}

// chapter is the chapter written out a second time, sentence by sentence, for one tree. It works everything out anew wherever a sentence speaks of it.
type chapter struct {
	l []api.Node
	// static is a node that counts as Static, whatever its Position is, or -1.
	static int
}

// misfit is what ends the chapter's work: something does not fit.
type misfit struct{}

func must[T any](v T, ok bool) T {
	if !ok {
		panic(misfit{})
	}
	return v
}

// mustSum is the sum of numbers that fit themselves.
func mustSum(l ...int64) int64 {
	var sum int64
	for _, n := range l {
		sum += n
	}
	return must(sum, fix.Fits(sum))
}

func (c chapter) made(n int) bool {
	for ; n != -1; n = c.l[n].Parent {
		if !c.l[n].S.Shown {
			return false
		}
	}
	return true
}

func (c chapter) out(n int) bool {
	p := c.l[n].S.Position
	return c.made(n) && n != 0 && n != c.static && (p == api.Absolute || p == api.Fixed)
}

func (c chapter) inFlow(n int) bool { return c.made(n) && !c.out(n) }

// kids are the children in the flow.
func (c chapter) kids(n int) []int {
	var kids []int
	for m := range c.l {
		if c.l[m].Parent == n && c.inFlow(m) {
			kids = append(kids, m)
		}
	}
	return kids
}

func (c chapter) independent(n int) bool { return n == 0 || c.out(n) || c.l[n].S.Clip }

func (c chapter) margin(n int, in room) [4]size.Size {
	return must(size.Sides(c.l[n].S.Margin, in.w))
}

func (c chapter) verticalMargin(n, side int, in room) int64 {
	return size.Or(c.margin(n, in)[side], 0)
}

func (c chapter) pad(n int, in room) [4]int64 {
	var pad [4]int64
	for side, s := range must(size.Sides(c.l[n].S.Pad, in.w)) {
		pad[side] = s.N
	}
	return pad
}

func (c chapter) height(n int, in room) size.Size {
	return must(size.Of(c.l[n].S.Height, in.h.N, !in.h.Auto))
}

func (c chapter) minimum(n int, in room) int64 {
	return must(size.Least(c.l[n].S.MinH, in.h.N, !in.h.Auto))
}

func (c chapter) maximum(n int, in room) int64 {
	return must(size.Most(c.l[n].S.MaxH, in.h.N, !in.h.Auto))
}

func (c chapter) clamp(n int, in room, high int64) int64 {
	return fix.Clamp(high, c.minimum(n, in), c.maximum(n, in))
}

func (c chapter) topOpen(n int, in room) bool {
	return !c.independent(n) && c.l[n].S.Border[api.Top] == 0 && c.pad(n, in)[api.Top] == 0
}

func (c chapter) bottomOpen(n int, in room) bool {
	return !c.independent(n) && c.l[n].S.Border[api.Bottom] == 0 && c.pad(n, in)[api.Bottom] == 0 &&
		c.height(n, in).Auto && c.minimum(n, in) == 0
}

func (c chapter) across(n int, in room) across.Out {
	s, m, p := c.l[n].S, c.margin(n, in), c.pad(n, in)
	return must(across.Solve(across.In{
		Base: in.w, Left: m[api.Left], Right: m[api.Right], RTL: in.rtl,
		Wide:   must(size.Of(s.Width, in.w, true)),
		Least:  must(size.Least(s.MinW, in.w, true)),
		Most:   must(size.Most(s.MaxW, in.w, true)),
		Around: mustSum(s.Border[api.Left], p[api.Left], p[api.Right], s.Border[api.Right]),
	}))
}

// content is what the content of n is laid out with.
func (c chapter) content(n int, in room) room {
	h := c.height(n, in)
	if !h.Auto {
		h.N = c.clamp(n, in, h.N)
	}
	return room{c.across(n, in).Wide, h, c.l[n].S.RTL}
}

func (c chapter) pile(kids []int, inner room, open bool) pile.Pile {
	var l []pile.Child
	for _, kid := range kids {
		l = append(l, c.child(kid, inner))
	}
	return must(pile.Stack(l, open))
}

// ownPile is the pile of the content of n.
func (c chapter) ownPile(n int, in room) pile.Pile {
	return c.pile(c.kids(n), c.content(n, in), c.topOpen(n, in))
}

func contentHeight(p pile.Pile, bottomOpen bool) int64 {
	if p.AtTop {
		return 0
	}
	high := p.Edge
	if !bottomOpen {
		high += must(strut.Value(p.Cur))
	}
	if high < 0 {
		return 0
	}
	return must(high, fix.Fits(high))
}

func (c chapter) through(n int, in room, p pile.Pile) bool {
	border, pad, high := c.l[n].S.Border, c.pad(n, in), c.height(n, in)
	if c.independent(n) || border[api.Top] != 0 || border[api.Bottom] != 0 || pad[api.Top] != 0 || pad[api.Bottom] != 0 || c.minimum(n, in) != 0 {
		return false
	}
	if len(c.kids(n)) == 0 {
		return high.Auto || high.N == 0
	}
	return high.Auto && p.AtTop
}

func (c chapter) child(n int, in room) pile.Child { return c.frame(n, in).Child }

// frame is the box of n, whose Y is not known yet.
func (c chapter) frame(n int, in room) Frame {
	o, p, s := c.across(n, in), c.ownPile(n, in), c.l[n].S
	f := Frame{X: o.Left, W: o.Wide, Pad: c.pad(n, in), Border: s.Border, Known: !c.height(n, in).Auto}
	f.Margin = [4]int64{c.verticalMargin(n, api.Top, in), o.Right, c.verticalMargin(n, api.Bottom, in), o.Left}
	f.H = contentHeight(p, c.bottomOpen(n, in))
	if f.Known {
		f.H = c.height(n, in).N
	}
	f.H = c.clamp(n, in, f.H)
	f.Child.High = mustSum(s.Border[api.Top], f.Pad[api.Top], f.H, f.Pad[api.Bottom], s.Border[api.Bottom])
	top, bottom := strut.Of(f.Margin[api.Top]), strut.Of(f.Margin[api.Bottom])
	f.Child.Inner = strut.Join(top, p.Top)
	f.Child.Top, f.Child.Bottom = f.Child.Inner, bottom
	if c.bottomOpen(n, in) && len(c.kids(n)) > 0 {
		f.Child.Bottom = strut.Join(bottom, p.Cur)
	}
	if c.through(n, in, p) {
		f.Child.Through = true
		f.Child.Top = strut.Join(f.Child.Inner, bottom)
		f.Child.Bottom = f.Child.Top
	}
	return f
}

// placed are all boxes of kids, and of what is in the flow within them.
func (c chapter) placed(kids []int, inner room, open bool) []Placed {
	var l []Placed
	for i, y := range c.pile(kids, inner, open).Y {
		f := c.frame(kids[i], inner)
		f.Y = y
		l = append(l, Placed{kids[i], f})
		l = append(l, c.placed(c.kids(kids[i]), c.content(kids[i], inner), c.topOpen(kids[i], inner))...)
	}
	slices.SortFunc(l, func(a, b Placed) int { return a.N - b.N })
	return l
}

func (c chapter) lay(kids []int, inner room, top, bottom bool) Lay {
	p := c.pile(kids, inner, top)
	return Lay{L: c.placed(kids, inner, top), Pile: p, High: contentHeight(p, bottom)}
}

// may reports whether w and h are in the range that the promise names, and n is a node that generates a box.
func (c chapter) may(n int, w int64, h size.Size) bool {
	return 0 <= n && n < len(c.l) && c.made(n) && 0 <= w && w <= maxUnit && (h.Auto || 0 <= h.N && h.N <= maxUnit)
}

// allFits runs f, and reports whether everything fits.
func allFits(f func()) (ok bool) {
	defer func() {
		if p := recover(); p != nil && p != any(misfit{}) {
			panic(p)
		}
	}()
	f()
	return true
}

func boxByHand(l []api.Node, n int, in room) (f Frame, lay Lay, ok bool) {
	c := chapter{l, n}
	if !c.may(n, in.w, in.h) {
		return Frame{}, Lay{}, false
	}
	ok = allFits(func() {
		f = c.frame(n, in)
		lay = c.lay(c.kids(n), c.content(n, in), c.topOpen(n, in), c.bottomOpen(n, in))
	})
	if !ok {
		return Frame{}, Lay{}, false
	}
	return f, lay, true
}

func insideByHand(l []api.Node, n int, w int64, h size.Size) (lay Lay, ok bool) {
	c := chapter{l, -1}
	if !c.may(n, w, h) || !c.out(n) {
		return Lay{}, false
	}
	ok = allFits(func() { lay = c.lay(c.kids(n), room{w, h, l[n].S.RTL}, false, false) })
	if !ok {
		return Lay{}, false
	}
	return lay, true
}

func withByHand(l []api.Node, n int, w int64, h size.Size, open bool) (f Frame, ok bool) {
	c := chapter{l, -1}
	if !c.may(n, w, h) || !c.out(n) {
		return Frame{}, false
	}
	c.static = n
	ok = allFits(func() {
		kids := c.kids(l[n].Parent)
		lay := c.lay(kids, room{w, h, l[l[n].Parent].S.RTL}, open, false)
		f = lay.L[slices.IndexFunc(lay.L, func(p Placed) bool { return p.N == n })].F
	})
	if !ok {
		return Frame{}, false
	}
	return f, true
}

// tally counts the answers that are true and that are false, of each function.
type tally struct{ box, inside, with [2]int }

func count(l *[2]int, ok bool) {
	if ok {
		l[1]++
	} else {
		l[0]++
	}
}

// compare asks each function for each node of a tree, and holds the answers against those by hand.
func (y *tally) compare(t *testing.T, name string, l []api.Node, in room) {
	t.Helper()
	k, e := kin.Of(l)
	if e != api.OK {
		t.Fatalf("%s: no tree: %v", name, e)
	}
	for n := -1; n <= len(l); n++ {
		f, lay, ok := Box(k, n, in.w, in.h, in.rtl)
		wantF, want, wantOk := boxByHand(l, n, in)
		count(&y.box, ok)
		if ok != wantOk || f != wantF || !sameLay(lay, want) {
			t.Fatalf("%s: Box of %d in %+v, %+v: %+v, %+v, %t instead of %+v, %+v, %t", name, n, in, l, f, lay, ok, wantF, want, wantOk)
		}
		lay, ok = Inside(k, n, in.w, in.h)
		want, wantOk = insideByHand(l, n, in.w, in.h)
		count(&y.inside, ok)
		if ok != wantOk || !sameLay(lay, want) {
			t.Fatalf("%s: Inside of %d in %+v, %+v: %+v, %t instead of %+v, %t", name, n, in, l, lay, ok, want, wantOk)
		}
		f, ok = With(k, n, in.w, in.h, in.rtl)
		wantF, wantOk = withByHand(l, n, in.w, in.h, in.rtl)
		count(&y.with, ok)
		if ok != wantOk || f != wantF {
			t.Fatalf("%s: With of %d in %+v, %+v: %+v, %t instead of %+v, %t", name, n, in, l, f, ok, wantF, wantOk)
		}
	}
}

// checkEach checks that each function has answered at least so many questions with true and with false.
func (y *tally) checkEach(t *testing.T, yes, no int) {
	t.Helper()
	for _, l := range [][2]int{y.box, y.inside, y.with} {
		if l[1] < yes || l[0] < no {
			t.Errorf("too few answers of one kind: %+v", *y)
			return
		}
	}
}

// shapes are the trees of this many nodes, as lists of parents.
func shapes(size int) [][]int {
	if size == 1 {
		return [][]int{{-1}}
	}
	var all [][]int
	for _, l := range shapes(size - 1) {
		for parent := len(l) - 1; parent != -1; parent = l[parent] {
			all = append(all, append(slices.Clone(l), parent))
		}
	}
	return all
}

// compareAll has all trees of this size whose nodes are of these kinds, in each of these rooms.
func compareAll(t *testing.T, size int, kinds [][]change, rooms []room) {
	t.Helper()
	var y tally
	for _, parents := range shapes(size) {
		all := 1
		for range parents {
			all *= len(kinds)
		}
		for i := range all {
			var l []api.Node
			for _, parent := range parents {
				l = append(l, node(parent, kinds[i%len(kinds)]...))
				i /= len(kinds)
			}
			for _, in := range rooms {
				y.compare(t, "all trees", l, in)
			}
		}
	}
	y.checkEach(t, 100, 100)
}

// TestTreesOfThree has many kinds of nodes, of which each may be above, below and beside each other one.
func TestTreesOfThree(t *testing.T) {
	compareAll(t, 3, [][]change{
		{},
		{margins(5, 9)},
		{margins(-4, -7), height(units(10))},
		{margins(3, -2), height(units(0))},
		{margin(api.Top, part(1000)), margin(api.Bottom, part(-500)), border(api.Top, 1)},
		{margins(6, 8), border(api.Bottom, 2)},
		{margins(2, 4), pad(api.Top, part(300))},
		{margins(-3, 12), pad(api.Bottom, units(3))},
		{margins(7, 1), clip},
		{margins(1, 11), minH(part(2000))},
		{margins(8, 5), height(part(5000)), maxH(units(20))},
		{margins(13, 15), minH(units(7)), maxH(units(4)), width(units(30)), margin(api.Left, units(4))},
		{margins(4, 6), absolute},
		{position(api.Relative), rtl, margins(-9, 14), width(part(5000))},
		{hidden, margins(20, 20)},
	}, []room{{100, auto, false}, {90, known(60), true}})
}

func TestTreesOfFour(t *testing.T) {
	compareAll(t, 4, [][]change{
		{margins(5, 9)},
		{margins(-4, -7), height(units(10))},
		{margins(3, -2), border(api.Top, 1)},
		{margins(6, 8), pad(api.Bottom, units(2))},
		{margins(7, 4), position(api.Fixed)},
		{margins(2, 11), height(units(0))},
		{margins(1, 12), clip},
	}, []room{{100, auto, false}})
}

// draw is a fixed rule that gives numbers without a pattern.
type draw uint64

func (d *draw) below(n int) int {
	*d = *d*6364136223846793005 + 1442695040888963407
	return int(uint64(*d) >> 33 % uint64(n))
}

// oneOf is one of these numbers.
func (d *draw) oneOf(l ...int64) int64 { return l[d.below(len(l))] }

// length is a length in units or as a part, or auto if it may be.
func (d *draw) length(mayBeAuto bool, unit, parts []int64) api.Len {
	switch d.below(5) {
	case 0, 1:
		return units(d.oneOf(unit...))
	case 2:
		return part(d.oneOf(parts...))
	}
	if mayBeAuto {
		return api.Len{}
	}
	return units(0)
}

// numbers are what the styles of a drawn tree are made of.
type numbers struct {
	margins, marginParts, sizes, parts, pads, padParts, borders []int64
}

func (d *draw) style(m numbers) api.Style {
	s := node(-1).S
	for _, x := range []*api.Len{&s.Width, &s.Height, &s.MinW, &s.MaxW, &s.MinH, &s.MaxH} {
		if d.below(3) == 0 {
			*x = d.length(true, m.sizes, m.parts)
		}
	}
	for side := range 4 {
		s.Margin[side] = d.length(true, m.margins, m.marginParts)
		if d.below(5) == 0 {
			s.Pad[side] = d.length(false, m.pads, m.padParts)
		}
		if d.below(8) == 0 {
			s.Border[side] = d.oneOf(m.borders...)
		}
	}
	s.Shown, s.RTL, s.Clip = d.below(12) > 0, d.below(2) == 0, d.below(10) == 0
	s.Position = int(d.oneOf(api.Static, api.Static, api.Static, api.Relative, api.Absolute, api.Fixed))
	return s
}

// tree is a tree of at most so many nodes, not deeper than 6, because the chapter's work is done anew for each level.
func (d *draw) tree(most int, m numbers) []api.Node {
	l := []api.Node{{S: d.style(m), Parent: -1}}
	l[0].S.Shown = true
	deep := []int{1}
	for n := range d.below(most) {
		parent := n
		for parent > 0 && (deep[parent] == 6 || d.below(3) == 0) {
			parent = l[parent].Parent
		}
		l = append(l, api.Node{S: d.style(m), Parent: parent})
		deep = append(deep, deep[parent]+1)
	}
	return l
}

func smallNumbers() numbers {
	return numbers{
		margins: []int64{0, 1, 2, 5, 9, -1, -3, -8, 40}, marginParts: []int64{0, 500, 1000, -700, 99},
		sizes: []int64{0, 1, 7, 30, 55, 200}, parts: []int64{0, 2500, 5000, 10000, 13000},
		pads: []int64{0, 1, 6}, padParts: []int64{0, 9, 100, 1500}, borders: []int64{1, 4},
	}
}

func TestDrawnTrees(t *testing.T) {
	d := draw(14)
	var y tally
	for range 1500 {
		in := room{d.oneOf(0, 1, 37, 100, 250), auto, d.below(2) == 0}
		if d.below(2) == 0 {
			in.h = known(d.oneOf(0, 1, 33, 80, 300))
		}
		y.compare(t, "drawn", d.tree(14, smallNumbers()), in)
	}
	y.checkEach(t, 1000, 1000)
}

// TestDrawnTreesOfGreatNumbers has numbers that often just fit, and often do not.
func TestDrawnTreesOfGreatNumbers(t *testing.T) {
	m := numbers{
		margins: []int64{0, 1, -1, 7, api.MaxLen, -api.MaxLen}, marginParts: []int64{0, 5000, 10000, -5000, -10000, 10001, api.MaxPart, -api.MaxPart},
		sizes: []int64{0, 1, api.MaxLen}, parts: []int64{0, 5000, 9999, 10000, 10001, api.MaxPart},
		pads: []int64{0, 1, api.MaxLen}, padParts: []int64{0, 2500, 5000, 10000, 10001}, borders: []int64{1, api.MaxLen},
	}
	d := draw(50)
	var y tally
	for range 6000 {
		in := room{d.oneOf(0, maxUnit/100, maxUnit/100+1, maxUnit/2, maxUnit-1, maxUnit, maxUnit+1, -1), auto, d.below(2) == 0}
		if d.below(2) == 0 {
			in.h = known(d.oneOf(0, maxUnit/100, maxUnit/2, maxUnit-1, maxUnit, maxUnit+1, -1))
		}
		y.compare(t, "drawn", d.tree(6, m), in)
	}
	y.checkEach(t, 500, 1000)
}
