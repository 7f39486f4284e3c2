package flow

import (
	"decoupage/across"
	"decoupage/api"
	"decoupage/fix"
	"decoupage/pile"
	"decoupage/size"
	"decoupage/strut"
)

// frameOf returns what of a frame does not depend on the content of the box: all but Y, H, Known and Child. It returns false if something does not fit.
func frameOf(s api.Style, in container) (Frame, bool) {
	margin, fits := size.Sides(s.Margin, in.wide)
	pad, ok := size.Sides(s.Pad, in.wide)
	if !fits || !ok {
		return Frame{}, false
	}
	f := Frame{Border: s.Border}
	for side := range f.Pad {
		f.Margin[side], f.Pad[side] = size.Or(margin[side], 0), size.Or(pad[side], 0)
	}
	o, ok := acrossOf(s, f, margin, in)
	f.X, f.W, f.Margin[api.Left], f.Margin[api.Right] = o.Left, o.Wide, o.Left, o.Right
	return f, ok
}

// acrossOf returns the width and the horizontal margins of a box, and false if something does not fit.
func acrossOf(s api.Style, f Frame, margin [4]size.Size, in container) (across.Out, bool) {
	wide, wideFits := size.Of(s.Width, in.wide, true)
	least, leastFits := size.Least(s.MinW, in.wide, true)
	most, mostFits := size.Most(s.MaxW, in.wide, true)
	around, aroundFits := withAround(f, api.Left, 0, api.Right)
	if !wideFits || !leastFits || !mostFits || !aroundFits {
		return across.Out{}, false
	}
	return across.Solve(across.In{
		Base: in.wide,
		Left: margin[api.Left], Wide: wide, Right: margin[api.Right],
		Around: around,
		RTL:    in.rtl,
		Least:  least, Most: most,
	})
}

// withAround returns the sum of n and what surrounds it from one side to the other one, and false if it does not fit.
func withAround(f Frame, from int, n int64, to int) (int64, bool) {
	return fix.Sum(f.Border[from], f.Pad[from], n, f.Pad[to], f.Border[to])
}

// heights are the resolved Height, MinH and MaxH of a box.
type heights struct {
	own         size.Size
	least, most int64
}

// heightsOf resolves the heights of a style in a container of height h, and returns false if one of them does not fit.
func heightsOf(s api.Style, h size.Size) (heights, bool) {
	own, ownFits := size.Of(s.Height, h.N, !h.Auto)
	least, leastFits := size.Least(s.MinH, h.N, !h.Auto)
	most, mostFits := size.Most(s.MaxH, h.N, !h.Auto)
	return heights{own, least, most}, ownFits && leastFits && mostFits
}

// inner returns the height for which the content is laid out.
func (h heights) inner() size.Size {
	if h.own.Auto {
		return h.own
	}
	return size.Size{N: h.outer(0)}
}

// outer returns the height of a box whose content has the height high.
func (h heights) outer(high int64) int64 { return fix.Clamp(size.Or(h.own, high), h.least, h.most) }

// ends tells whether the top and the bottom of a box are open: whether its margins there adjoin those of its children. A box is flat if nothing but its top, its children and a specified height keeps its two margins apart.
type ends struct{ top, bottom, flat bool }

// endsOf returns the ends of a box; those of an independent one are closed.
func endsOf(f Frame, h heights, independent bool) ends {
	if independent {
		return ends{}
	}
	flat := f.Border[api.Bottom] == 0 && f.Pad[api.Bottom] == 0 && h.least == 0
	return ends{
		top:    f.Border[api.Top] == 0 && f.Pad[api.Top] == 0,
		bottom: flat && h.own.Auto,
		flat:   flat,
	}
}

// through reports whether margins collapse through a box with these children, ends and heights.
func through(p pile.Pile, e ends, h heights) bool {
	// The pile is at the top only where the top of the box is open.
	return p.AtTop && e.flat && (h.own.Auto || h.own.N == 0 && len(p.Y) == 0)
}

// childOf returns a box as the pile of its container takes it, and false if the height of its border box does not fit.
func childOf(f Frame, p pile.Pile, e ends, h heights) (pile.Child, bool) {
	high, ok := withAround(f, api.Top, f.H, api.Bottom)
	top, bottom := strut.Of(f.Margin[api.Top]), strut.Of(f.Margin[api.Bottom])
	c := pile.Child{Inner: strut.Join(top, p.Top), Through: through(p, e, h), High: high}
	c.Top, c.Bottom = c.Inner, bottom
	switch {
	case c.Through:
		c.Top = strut.Join(c.Inner, bottom)
		c.Bottom = c.Top
	case e.bottom:
		// Without children in the flow there is nothing to join.
		c.Bottom = strut.Join(bottom, p.Cur)
	}
	return c, ok
}
