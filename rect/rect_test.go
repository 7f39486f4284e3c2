package rect

import (
	"math"
	"slices"
	"testing"

	"decoupage/api"
)

const (
	least = int64(math.MinInt64)
	most  = int64(math.MaxInt64)
)

func of(x0, y0, x1, y1 int64) api.Rect { return api.Rect{X0: x0, Y0: y0, X1: x1, Y1: y1} }

var (
	zero = api.Rect{}
	all  = of(least, least, most, most)
)

// Rectangles without points: without width, without height, with sides the wrong way round.
var empties = []api.Rect{
	zero,
	of(3, 3, 3, 3),
	of(1, 1, 1, 5),
	of(1, 1, 5, 1),
	of(3, 0, 2, 9),
	of(0, 3, 9, 2),
	of(7, 7, 0, 0),
	of(-2, -2, -4, -4),
	of(most, most, least, least),
	of(most, least, least, most),
	of(least, most, most, least),
	of(least, least, least, most),
	of(most, most, most, most),
	of(least, most, most, most),
}

var solids = []api.Rect{
	of(0, 0, 1, 1),
	of(-1, -1, 0, 0),
	of(-5, 2, 7, 3),
	all,
	of(least, 0, most, 1),
	of(least, least, least+1, least+1),
	of(most-1, most-1, most, most),
}

func TestEmpty(t *testing.T) {
	for _, r := range empties {
		if !Empty(r) {
			t.Errorf("Empty(%v) is false", r)
		}
	}
	for _, r := range solids {
		if Empty(r) {
			t.Errorf("Empty(%v) is true", r)
		}
	}
}

func TestHolds(t *testing.T) {
	r := of(-2, 1, 3, 4)
	for _, p := range [][2]int64{{-2, 1}, {2, 1}, {-2, 3}, {2, 3}, {0, 2}} {
		if !Holds(r, p[0], p[1]) {
			t.Errorf("%v does not hold %v", r, p)
		}
	}
	for _, p := range [][2]int64{
		{-3, 2}, {3, 2}, {0, 0}, {0, 4}, {-3, 0}, {3, 4},
		{least, 2}, {most, 2}, {0, least}, {0, most},
	} {
		if Holds(r, p[0], p[1]) {
			t.Errorf("%v holds %v", r, p)
		}
	}
	for _, r := range empties {
		for _, x := range []int64{r.X0, r.X1, 0, 1, least, most} {
			for _, y := range []int64{r.Y0, r.Y1, 0, 1, least, most} {
				if Holds(r, x, y) {
					t.Errorf("%v holds %d, %d", r, x, y)
				}
			}
		}
	}
}

func TestHoldsAtTheEndsOfTheRange(t *testing.T) {
	for _, p := range [][2]int64{{least, least}, {most - 1, most - 1}, {least, most - 1}, {0, 0}} {
		if !Holds(all, p[0], p[1]) {
			t.Errorf("%v is not held", p)
		}
	}
	for _, p := range [][2]int64{{most, 0}, {0, most}, {most, most}, {least, most}} {
		if Holds(all, p[0], p[1]) {
			t.Errorf("%v is held", p)
		}
	}
}

func TestMeet(t *testing.T) {
	for _, c := range []struct {
		name    string
		a, b, m api.Rect
	}{
		{"overlap", of(0, 0, 5, 5), of(3, 2, 9, 4), of(3, 2, 5, 4)},
		{"one inside the other", of(0, 0, 9, 9), of(3, 2, 5, 4), of(3, 2, 5, 4)},
		{"equal", of(-1, -2, 3, 4), of(-1, -2, 3, 4), of(-1, -2, 3, 4)},
		{"cross", of(0, 3, 9, 5), of(4, 0, 6, 9), of(4, 3, 6, 5)},
		{"touch at a side", of(0, 0, 2, 2), of(2, 0, 4, 2), zero},
		{"touch above", of(0, 0, 2, 2), of(0, 2, 2, 4), zero},
		{"touch at a corner", of(0, 0, 2, 2), of(2, 2, 4, 4), zero},
		{"far apart", of(0, 0, 2, 2), of(7, 8, 9, 9), zero},
		{"beside, same rows", of(0, 0, 2, 2), of(5, 0, 9, 2), zero},
		{"all", all, of(-3, 1, 7, 9), of(-3, 1, 7, 9)},
		{"all with all", all, all, all},
		{"the ends", of(least, least, least+1, most), of(least, most-1, most, most), of(least, most-1, least+1, most)},
		{"the ends, apart", of(least, least, least+1, least+1), of(most-1, most-1, most, most), zero},
	} {
		if m := Meet(c.a, c.b); m != c.m {
			t.Errorf("%s: %v instead of %v", c.name, m, c.m)
		}
		if m := Meet(c.b, c.a); m != c.m {
			t.Errorf("%s, the other way round: %v instead of %v", c.name, m, c.m)
		}
	}
}

func TestMeetOfNothing(t *testing.T) {
	for _, e := range empties {
		for _, r := range slices.Concat(empties, solids) {
			if Meet(e, r) != zero || Meet(r, e) != zero {
				t.Errorf("%v and %v have points in common", e, r)
			}
		}
	}
}

func TestInside(t *testing.T) {
	for _, c := range []struct {
		name string
		a, b api.Rect
		want bool
	}{
		{"inside", of(1, 1, 2, 2), of(0, 0, 3, 3), true},
		{"inside, at the corner", of(1, 1, 2, 2), of(0, 0, 2, 2), true},
		{"equal", of(0, 0, 2, 2), of(0, 0, 2, 2), true},
		{"around", of(0, 0, 3, 3), of(1, 1, 2, 2), false},
		{"out on the right", of(1, 1, 3, 2), of(0, 0, 2, 2), false},
		{"out on the left", of(-1, 1, 1, 2), of(0, 0, 2, 2), false},
		{"out above", of(0, -1, 1, 1), of(0, 0, 2, 2), false},
		{"out below", of(0, 1, 1, 3), of(0, 0, 2, 2), false},
		{"touching", of(2, 0, 3, 1), of(0, 0, 2, 2), false},
		{"apart", of(8, 8, 9, 9), of(0, 0, 2, 2), false},
		{"in all", of(-9, 9, 10, 11), all, true},
		{"all in all", all, all, true},
		{"all in less", all, of(least, least, most, most-1), false},
	} {
		if got := Inside(c.a, c.b); got != c.want {
			t.Errorf("%s: %t", c.name, got)
		}
	}
	for _, e := range empties {
		for _, r := range slices.Concat(empties, solids) {
			if !Inside(e, r) {
				t.Errorf("%v, without points, is not inside %v", e, r)
			}
		}
		for _, r := range solids {
			if Inside(r, e) {
				t.Errorf("%v is inside %v, without points", r, e)
			}
		}
	}
}

func TestSame(t *testing.T) {
	for i, a := range solids {
		for j, b := range solids {
			if Same(a, b) != (i == j) {
				t.Errorf("Same(%v, %v) is %t", a, b, i != j)
			}
		}
	}
	for _, e := range empties {
		for _, f := range empties {
			if !Same(e, f) {
				t.Errorf("%v and %v, both without points, differ", e, f)
			}
		}
		for _, r := range solids {
			if Same(e, r) || Same(r, e) {
				t.Errorf("%v and %v are the same", e, r)
			}
		}
	}
	r := of(1, 2, 3, 4)
	for _, b := range []api.Rect{of(0, 2, 3, 4), of(1, 1, 3, 4), of(1, 2, 4, 4), of(1, 2, 3, 5)} {
		if Same(r, b) || Same(b, r) {
			t.Errorf("%v and %v are the same", r, b)
		}
	}
}

func TestBound(t *testing.T) {
	for _, c := range []struct {
		name string
		l    []api.Rect
		want api.Rect
	}{
		{"nil", nil, zero},
		{"no elements", []api.Rect{}, zero},
		{"no points", empties, zero},
		{"one without points", []api.Rect{of(9, 9, 9, 9)}, zero},
		{"one", []api.Rect{of(3, 4, 5, 6)}, of(3, 4, 5, 6)},
		{"one below zero", []api.Rect{of(-5, -6, -3, -4)}, of(-5, -6, -3, -4)},
		{"one without points ahead", []api.Rect{of(9, 9, 9, 9), of(1, 2, 3, 4), of(0, 3, 1, 7)}, of(0, 2, 3, 7)},
		{"one without points in between", []api.Rect{of(1, 2, 3, 4), of(-9, 3, -9, 99), of(0, 3, 1, 7)}, of(0, 2, 3, 7)},
		{"one without points last", []api.Rect{of(1, 2, 3, 4), of(0, 3, 1, 7), of(50, 50, -50, -50)}, of(0, 2, 3, 7)},
		{"zero does not count", []api.Rect{zero, of(1, 2, 3, 4), zero}, of(1, 2, 3, 4)},
		{"touching", []api.Rect{of(0, 0, 2, 2), of(2, 0, 4, 2)}, of(0, 0, 4, 2)},
		{"one inside the other", []api.Rect{of(1, 1, 2, 2), of(0, 0, 9, 9)}, of(0, 0, 9, 9)},
		{"far apart", []api.Rect{of(8, 8, 9, 9), of(-9, -9, -8, -8), of(-9, 8, -8, 9)}, of(-9, -9, 9, 9)},
		{"all", []api.Rect{of(1, 1, 2, 2), all, of(3, 3, 4, 4)}, all},
		{"the ends", []api.Rect{of(most-1, most-1, most, most), of(least, least, least+1, least+1)}, all},
	} {
		if got := Bound(c.l); got != c.want {
			t.Errorf("%s: %v instead of %v", c.name, got, c.want)
		}
	}
}

func TestBoundLeavesItsArgument(t *testing.T) {
	list := []api.Rect{of(5, 5, 2, 2), of(1, 2, 3, 4), of(0, 3, 1, 7), of(8, 8, 9, 9), of(7, 7, 6, 6)}
	want := slices.Clone(list)
	if got := Bound(list[:3]); got != of(0, 2, 3, 7) {
		t.Errorf("what is behind the list counts: %v", got)
	}
	if !slices.Equal(list, want) {
		t.Errorf("the argument has become %v", list)
	}
}

func TestCut(t *testing.T) {
	a := of(0, 0, 3, 3)
	for _, c := range []struct {
		name string
		a, b api.Rect
		want []api.Rect
	}{
		{"a hole", a, of(1, 1, 2, 2), []api.Rect{of(0, 0, 3, 1), of(0, 2, 3, 3), of(0, 1, 1, 2), of(2, 1, 3, 2)}},
		{"all of it", a, a, nil},
		{"more than all of it", a, of(-1, -1, 9, 9), nil},
		{"top", a, of(-1, -1, 9, 1), []api.Rect{of(0, 1, 3, 3)}},
		{"bottom", a, of(-1, 2, 9, 9), []api.Rect{of(0, 0, 3, 2)}},
		{"left", a, of(-1, -1, 1, 9), []api.Rect{of(1, 0, 3, 3)}},
		{"right", a, of(2, -1, 9, 9), []api.Rect{of(0, 0, 2, 3)}},
		{"band across", a, of(-1, 1, 9, 2), []api.Rect{of(0, 0, 3, 1), of(0, 2, 3, 3)}},
		{"band down", a, of(1, -1, 2, 9), []api.Rect{of(0, 0, 1, 3), of(2, 0, 3, 3)}},
		{"corner top left", a, of(-1, -1, 1, 1), []api.Rect{of(0, 1, 3, 3), of(1, 0, 3, 1)}},
		{"corner bottom right", a, of(2, 2, 9, 9), []api.Rect{of(0, 0, 3, 2), of(0, 2, 2, 3)}},
		{"from the left to the middle", a, of(-1, 1, 2, 2), []api.Rect{of(0, 0, 3, 1), of(0, 2, 3, 3), of(2, 1, 3, 2)}},
		{"touching on the right", a, of(3, 0, 9, 9), []api.Rect{a}},
		{"touching below", a, of(0, 3, 3, 9), []api.Rect{a}},
		{"touching at a corner", a, of(-2, -2, 0, 0), []api.Rect{a}},
		{"apart", a, of(7, 7, 9, 9), []api.Rect{a}},
		{"beside, same rows", a, of(5, 1, 9, 2), []api.Rect{a}},
		{"by nothing in its middle", a, of(1, 1, 1, 2), []api.Rect{a}},
		{"by sides the wrong way round", a, of(2, 2, 1, 1), []api.Rect{a}},
		{"by zero", a, zero, []api.Rect{a}},
		{"nothing, apart", of(2, 2, 2, 5), of(8, 8, 9, 9), nil},
		{"nothing, inside", of(2, 2, 2, 5), of(0, 0, 9, 9), nil},
		{"nothing by nothing", of(2, 2, 1, 1), of(5, 5, 5, 5), nil},
		{"all by all", all, all, nil},
		{"less by all", of(0, 0, 5, 5), all, nil},
		{"all by less", all, of(0, 1, 2, 3), []api.Rect{of(least, least, most, 1), of(least, 3, most, most), of(least, 1, 0, 3), of(2, 1, most, 3)}},
		{"all by its first point", all, of(least, least, least+1, least+1), []api.Rect{of(least, least+1, most, most), of(least+1, least, most, least+1)}},
		{"all by its last point", all, of(most-1, most-1, most, most), []api.Rect{of(least, least, most, most-1), of(least, most-1, most-1, most)}},
	} {
		if got := Cut(c.a, c.b); !slices.Equal(got, c.want) {
			t.Errorf("%s: %v instead of %v", c.name, got, c.want)
		}
	}
}

// New memory includes the spare capacity: what is appended to one result must not show in another.
func TestCutReturnsNewMemory(t *testing.T) {
	a, b := of(0, 0, 3, 3), of(1, 0, 2, 3)
	first, second := Cut(a, b), Cut(a, b)
	want := slices.Clone(second)
	for k := range first[:cap(first)] {
		first[:cap(first)][k] = all
	}
	if !slices.Equal(second, want) || !slices.Equal(Cut(a, b), want) {
		t.Error("two results share memory")
	}
}

// every returns all rectangles with these coordinates, also those whose sides are the wrong way round.
func every(marks []int64) []api.Rect {
	var l []api.Rect
	for _, x0 := range marks {
		for _, y0 := range marks {
			for _, x1 := range marks {
				for _, y1 := range marks {
					l = append(l, of(x0, y0, x1, y1))
				}
			}
		}
	}
	return l
}

// points returns, as bits, which of the points with these coordinates are in r, by the definition alone.
// If all sides of all rectangles are among the (ascending) marks, any other point is in the same rectangles as the next mark down, so these points suffice.
func points(r api.Rect, marks []int64) uint64 {
	var set uint64
	for i, x := range marks {
		for j, y := range marks {
			if r.X0 <= x && x < r.X1 && r.Y0 <= y && y < r.Y1 {
				set |= 1 << (i*len(marks) + j)
			}
		}
	}
	return set
}

func TestAgainstTheDefinition(t *testing.T) {
	for _, marks := range [][]int64{
		{-1, 0, 1, 2},
		{least, least + 1, most - 1, most},
		{least, -1, 0, most},
	} {
		l := every(marks)
		for _, a := range l {
			checkOne(t, a, marks)
			for _, b := range l {
				checkPair(t, a, b, marks)
			}
		}
	}
}

func checkOne(t *testing.T, a api.Rect, marks []int64) {
	if Empty(a) != (points(a, marks) == 0) {
		t.Errorf("Empty(%v) is %t", a, Empty(a))
	}
	for i, x := range marks {
		for j, y := range marks {
			if Holds(a, x, y) != (points(a, marks)>>(i*len(marks)+j)&1 == 1) {
				t.Errorf("Holds(%v, %d, %d) is %t", a, x, y, Holds(a, x, y))
			}
		}
	}
}

func checkPair(t *testing.T, a, b api.Rect, marks []int64) {
	in, by := points(a, marks), points(b, marks)
	m := Meet(a, b)
	if points(m, marks) != in&by || in&by == 0 && m != zero {
		t.Errorf("Meet(%v, %v): %v", a, b, m)
	}
	if Inside(a, b) != (in&^by == 0) {
		t.Errorf("Inside(%v, %v): %t", a, b, Inside(a, b))
	}
	if Same(a, b) != (in == by) {
		t.Errorf("Same(%v, %v): %t", a, b, Same(a, b))
	}
	if got, want := Bound([]api.Rect{a, b}), around(in|by, marks); got != want {
		t.Errorf("Bound(%v, %v): %v instead of %v", a, b, got, want)
	}
	checkCut(t, a, b, marks)
}

// around returns the least rectangle that contains these points.
func around(set uint64, marks []int64) api.Rect {
	if set == 0 {
		return zero
	}
	r := of(most, most, least, least)
	for i, x := range marks {
		for j, y := range marks {
			if set>>(i*len(marks)+j)&1 == 1 {
				r = of(min(r.X0, x), min(r.Y0, y), max(r.X1, marks[i+1]), max(r.Y1, marks[j+1]))
			}
		}
	}
	return r
}

func checkCut(t *testing.T, a, b api.Rect, marks []int64) {
	l := Cut(a, b)
	var sum uint64
	for _, r := range l {
		set := points(r, marks)
		if set == 0 || set&sum != 0 {
			t.Errorf("Cut(%v, %v): %v is empty or overlaps", a, b, l)
		}
		sum |= set
	}
	in, by := points(a, marks), points(b, marks)
	if sum != in&^by {
		t.Errorf("Cut(%v, %v): %v has other points", a, b, l)
	}
	if in != 0 && in&by == 0 && !slices.Equal(l, []api.Rect{a}) {
		t.Errorf("Cut(%v, %v): %v instead of the first alone", a, b, l)
	}
}
