package flow

import (
	"testing"

	"decoupage/api"
)

// run is all vertical margins of a tree in the order in which they are met from the top down: each box's top margin, those of its children, its bottom margin. Margins that adjoin are next to each other, so that a set of them is a stretch of the list.
type run struct {
	c    chapter
	size []int64
	// apart is whether a margin does not adjoin the one before it.
	apart       []bool
	top, bottom map[int]int
}

// newRun has nothing of piles and struts: only which margins there are, and what is between them. The heights of the tree must be in units.
func newRun(l []api.Node) *run {
	r := &run{c: chapter{l, -1}, top: map[int]int{}, bottom: map[int]int{}}
	r.add(0)
	return r
}

func (r *run) put(m api.Len, apart bool) int {
	r.size = append(r.size, m.N)
	r.apart = append(r.apart, apart)
	return len(r.size) - 1
}

// closed reports whether something other than children and heights is at this side of the box between its margin and its children's.
func (r *run) closed(n, side int) bool {
	s := r.c.l[n].S
	return n == 0 || s.Clip || s.Border[side] > 0 || s.Pad[side].N > 0
}

// openBottom reports whether the margins of the last child adjoin that of the box.
func (r *run) openBottom(n int) bool {
	s := r.c.l[n].S
	return !r.closed(n, api.Bottom) && s.Height.Kind == api.Auto && s.MinH.N == 0
}

func (r *run) add(n int) {
	s, kids := r.c.l[n].S, r.c.kids(n)
	r.top[n] = r.put(s.Margin[api.Top], false)
	for i, kid := range kids {
		before := len(r.apart)
		r.add(kid)
		r.apart[before] = i == 0 && r.closed(n, api.Top)
	}
	apart := !r.openBottom(n)
	if len(kids) == 0 {
		apart = r.closed(n, api.Top) || r.closed(n, api.Bottom) || s.MinH.N > 0 || s.Height.N > 0
	}
	r.bottom[n] = r.put(s.Margin[api.Bottom], apart)
}

// adjoining is the stretch of all margins that adjoin the one at this place.
func (r *run) adjoining(at int) (from, to int) {
	from, to = at, at+1
	for from > 0 && !r.apart[from] {
		from--
	}
	for to < len(r.apart) && !r.apart[to] {
		to++
	}
	return from, to
}

// collapse is the sum of the greatest positive margin of a stretch and the least negative one.
func (r *run) collapse(from, to int) int64 {
	var positive, negative int64
	for _, m := range r.size[from:to] {
		positive, negative = max(positive, m), min(negative, m)
	}
	return positive + negative
}

// hollow reports whether the margins at the top and the bottom of a box adjoin.
func (r *run) hollow(n int) bool {
	_, to := r.adjoining(r.top[n])
	return r.bottom[n] < to
}

// check checks where the children of a box are, and the height of its content.
func (r *run) check(t *testing.T, n int, frames map[int]Frame, high int64) {
	t.Helper()
	atTop := !r.closed(n, api.Top)
	var edge int64
	kids := r.c.kids(n)
	for _, kid := range kids {
		f, hollow := frames[kid], r.hollow(kid)
		want := int64(0)
		if !atTop {
			from, to := r.adjoining(r.top[kid])
			if hollow {
				// As if its own bottom margin, and what follows that, were not there.
				to = r.bottom[kid]
			}
			want = edge + r.collapse(from, to)
		}
		if f.Y != want || f.Child.Through != hollow {
			t.Fatalf("%+v: Y of %d is %d instead of %d, and %t", r.c.l, kid, f.Y, want, f.Child.Through)
		}
		if !hollow {
			s := r.c.l[kid].S
			edge = f.Y + s.Border[api.Top] + f.Pad[api.Top] + f.H + f.Pad[api.Bottom] + s.Border[api.Bottom]
			atTop = false
		}
	}
	if len(kids) > 0 && !atTop && !r.openBottom(n) {
		edge += r.collapse(r.adjoining(r.bottom[kids[len(kids)-1]]))
	}
	if atTop {
		edge = 0
	}
	if high != max(edge, 0) {
		t.Fatalf("%+v: the content of %d has the height %d instead of %d", r.c.l, n, high, edge)
	}
}

// TestAdjoiningMargins is the consequence, for trees whose heights and paddings are in units: between two boxes, and between a box and its content, is what the margins collapse to that adjoin there.
func TestAdjoiningMargins(t *testing.T) {
	numbers := smallNumbers()
	numbers.marginParts, numbers.parts, numbers.padParts = []int64{0}, []int64{0}, []int64{0}
	d := draw(141)
	hollow, deep := 0, 0
	for range 4000 {
		l := d.tree(24, numbers)
		for n := range l {
			for _, x := range []*api.Len{&l[n].S.Height, &l[n].S.MinH, &l[n].S.MaxH} {
				if x.Kind == api.Part {
					*x = api.Len{}
				}
			}
		}
		r := newRun(l)
		f, lay, ok := Box(of(t, "adjoining", l), 0, 200, auto, false)
		if !ok {
			t.Fatalf("%+v: no box", l)
		}
		frames := map[int]Frame{0: f}
		for _, p := range lay.L {
			frames[p.N] = p.F
		}
		r.check(t, 0, frames, lay.High)
		for _, p := range lay.L {
			s := l[p.N].S
			if s.Height.Kind == api.Auto && s.MinH.N == 0 && s.MaxH.Kind == api.Auto {
				r.check(t, p.N, frames, p.F.H)
			}
			if r.hollow(p.N) {
				hollow++
			}
			if from, to := r.adjoining(r.top[p.N]); to-from > 4 {
				deep++
			}
		}
	}
	if hollow < 1000 || deep < 1000 {
		t.Error("too few of a kind:", hollow, deep)
	}
}
