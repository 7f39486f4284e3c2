package flow

import (
	"cmp"
	"slices"

	"decoupage/fix"
	"decoupage/kin"
	"decoupage/pile"
	"decoupage/strut"
)

// layout lays out boxes of one tree. All of them stand in one list, because a list for each content would be copied once for each level above it.
type layout struct {
	kin    *kin.Kin
	placed []Placed
}

// box lays out node n in a container, and returns its frame (whose Y the container's pile decides) and its content. It returns false if something does not fit.
func (d *layout) box(n int, in container) (Frame, Lay, bool) {
	s := d.kin.Style(n)
	f, fits := frameOf(s, in)
	h, ok := heightsOf(s, in.high)
	if !fits || !ok {
		return Frame{}, Lay{}, false
	}
	e := endsOf(f, h, n == 0 || s.Clip)
	lay, ok := d.content(d.kin.Flow(n), container{f.W, h.inner(), s.RTL}, e)
	if !ok {
		return Frame{}, Lay{}, false
	}
	f.H, f.Known = h.outer(lay.High), !h.own.Auto
	f.Child, ok = childOf(f, lay.Pile, e, h)
	return f, lay, ok
}

// content lays out children one below the other in a container whose own ends are e. It returns false if something does not fit.
func (d *layout) content(kids []int, in container, e ends) (Lay, bool) {
	children, places := make([]pile.Child, 0, len(kids)), make([]int, 0, len(kids))
	for _, kid := range kids {
		// Its place in the list precedes those of the boxes within it.
		place := len(d.placed)
		d.placed = append(d.placed, Placed{N: kid})
		f, _, ok := d.box(kid, in)
		if !ok {
			return Lay{}, false
		}
		d.placed[place].F = f
		places = append(places, place)
		children = append(children, f.Child)
	}
	p, ok := pile.Stack(children, e.top)
	if !ok {
		return Lay{}, false
	}
	for i, y := range p.Y {
		d.placed[places[i]].F.Y = y
	}
	high, ok := heightOf(p, e)
	return Lay{Pile: p, High: high}, ok
}

// frame returns the frame of a node that has been laid out.
func (d *layout) frame(n int) Frame {
	place, _ := slices.BinarySearchFunc(d.placed, n, func(p Placed, n int) int { return cmp.Compare(p.N, n) })
	return d.placed[place].F
}

// heightOf returns the height of a content, and false if it does not fit. A pile that is at the top has neither an Edge nor a Cur, so that there the height is 0.
func heightOf(p pile.Pile, e ends) (int64, bool) {
	high := p.Edge
	if !e.bottom {
		gap, ok := strut.Value(p.Cur)
		if !ok {
			return 0, false
		}
		high += gap
	}
	// A height is at least 0, however far negative margins move the last box up.
	high = max(high, 0)
	return high, fix.Fits(high)
}
