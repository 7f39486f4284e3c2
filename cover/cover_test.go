package cover

import (
	"math"
	"slices"
	"testing"

	"decoupage/api"
	"decoupage/rect"
)

const (
	least = int64(math.MinInt64)
	most  = int64(math.MaxInt64)
)

func of(x0, y0, x1, y1 int64) api.Rect { return api.Rect{X0: x0, Y0: y0, X1: x1, Y1: y1} }

var (
	zero = api.Rect{}
	all  = of(least, least, most, most)
)

// Rectangles without points: without width, without height, with sides the wrong way round.
var empties = []api.Rect{
	zero,
	of(1, 1, 1, 5),
	of(1, 1, 5, 1),
	of(3, 0, 2, 9),
	of(0, 3, 9, 2),
	of(7, 7, 0, 0),
	of(-2, -2, -4, -4),
	of(most, most, least, least),
	of(most, least, least, most),
	of(least, most, most, least),
	of(least, least, least, most),
	of(most, most, most, most),
}

func TestRest(t *testing.T) {
	r := of(0, 0, 4, 4)
	for _, c := range []struct {
		name string
		r    api.Rect
		l    []api.Rect
		want []api.Rect
	}{
		{"by nil", r, nil, []api.Rect{r}},
		{"by no elements", r, []api.Rect{}, []api.Rect{r}},
		{"by elements without points", r, empties, []api.Rect{r}},
		{"by itself", r, []api.Rect{r}, nil},
		{"by more", r, []api.Rect{of(-1, -1, 9, 9)}, nil},
		{"by all", r, []api.Rect{all}, nil},
		{"by all, last", r, []api.Rect{of(1, 1, 2, 2), of(2, 2, 3, 3), all}, nil},
		{"by all, first", r, []api.Rect{all, of(1, 1, 2, 2), of(2, 2, 3, 3)}, nil},
		{"by halves", r, []api.Rect{of(0, 0, 2, 4), of(2, 0, 4, 4)}, nil},
		{"touching", r, []api.Rect{of(4, 0, 9, 4), of(0, 4, 4, 9), of(-9, 0, 0, 4), of(0, -9, 4, 0), of(4, 4, 5, 5)}, []api.Rect{r}},
		{"apart", r, []api.Rect{of(7, 0, 9, 4), of(0, 70, 4, 90)}, []api.Rect{r}},
		{"a hole: above, below, left, right", r, []api.Rect{of(1, 1, 3, 3)}, []api.Rect{of(0, 0, 4, 1), of(0, 3, 4, 4), of(0, 1, 1, 3), of(3, 1, 4, 3)}},
		{"equal elements", r, []api.Rect{of(1, 0, 3, 4), of(1, 0, 3, 4)}, []api.Rect{of(0, 0, 1, 4), of(3, 0, 4, 4)}},
		{"one inside the other", r, []api.Rect{of(0, 0, 4, 3), of(1, 1, 2, 2)}, []api.Rect{of(0, 3, 4, 4)}},
		{"one inside the other, the other way round", r, []api.Rect{of(1, 1, 2, 2), of(0, 0, 4, 3)}, []api.Rect{of(0, 3, 4, 4)}},
		{"elements without points in between", r, []api.Rect{of(2, 2, 1, 1), of(0, 0, 4, 2), zero, of(0, 2, 3, 4), of(3, 2, 3, 4)}, []api.Rect{of(3, 2, 4, 4)}},
		{"of the shared test", of(0, 0, 4, 3), []api.Rect{of(0, 0, 2, 2), of(2, 0, 4, 1), of(1, 1, 4, 4)}, []api.Rect{of(0, 2, 1, 3)}},
		{"all by less", all, []api.Rect{of(0, 1, 2, 3)}, []api.Rect{of(least, least, most, 1), of(least, 3, most, most), of(least, 1, 0, 3), of(2, 1, most, 3)}},
		{"all by its halves", all, []api.Rect{of(least, least, 0, most), of(0, least, most, most)}, nil},
		{"all by its first and last points", all, []api.Rect{of(least, least, least+1, least+1), of(most-1, most-1, most, most)}, []api.Rect{
			of(least, least+1, most, most-1), of(least, most-1, most-1, most), of(least+1, least, most, least+1),
		}},
	} {
		if got := Rest(c.r, c.l); !slices.Equal(got, c.want) {
			t.Errorf("%s: %v instead of %v", c.name, got, c.want)
		}
	}
}

// What comes of the first remaining rectangle stands ahead of what comes of the second one, however late it was cut.
func TestOrderOfRest(t *testing.T) {
	r, first := of(0, 0, 6, 6), of(2, 2, 4, 4)
	for _, c := range []struct {
		name   string
		second api.Rect
		want   []api.Rect
	}{
		{"cuts the first", of(2, 0, 3, 1), []api.Rect{
			of(0, 1, 6, 2), of(0, 0, 2, 1), of(3, 0, 6, 1), of(0, 4, 6, 6), of(0, 2, 2, 4), of(4, 2, 6, 4),
		}},
		{"cuts the second", of(1, 5, 5, 6), []api.Rect{
			of(0, 0, 6, 2), of(0, 4, 6, 5), of(0, 5, 1, 6), of(5, 5, 6, 6), of(0, 2, 2, 4), of(4, 2, 6, 4),
		}},
		{"cuts the last", of(5, 3, 9, 4), []api.Rect{
			of(0, 0, 6, 2), of(0, 4, 6, 6), of(0, 2, 2, 4), of(4, 2, 6, 3), of(4, 3, 5, 4),
		}},
		{"cuts all", of(1, 1, 5, 5), []api.Rect{
			of(0, 0, 6, 1), of(0, 1, 1, 2), of(5, 1, 6, 2),
			of(0, 5, 6, 6), of(0, 4, 1, 5), of(5, 4, 6, 5),
			of(0, 2, 1, 4), of(5, 2, 6, 4),
		}},
		{"removes the first", of(0, 0, 6, 2), []api.Rect{of(0, 4, 6, 6), of(0, 2, 2, 4), of(4, 2, 6, 4)}},
	} {
		if got := Rest(r, []api.Rect{first, c.second}); !slices.Equal(got, c.want) {
			t.Errorf("%s: %v instead of %v", c.name, got, c.want)
		}
	}
}

// The order of the elements determines how the remainder is divided.
func TestRestSubtractsInOrder(t *testing.T) {
	r, a, b := of(0, 0, 3, 3), of(1, 0, 2, 1), of(1, 1, 2, 3)
	if got, want := Rest(r, []api.Rect{a, b}), []api.Rect{of(0, 1, 1, 3), of(2, 1, 3, 3), of(0, 0, 1, 1), of(2, 0, 3, 1)}; !slices.Equal(got, want) {
		t.Errorf("%v instead of %v", got, want)
	}
	if got, want := Rest(r, []api.Rect{b, a}), []api.Rect{of(0, 0, 1, 1), of(2, 0, 3, 1), of(0, 1, 1, 3), of(2, 1, 3, 3)}; !slices.Equal(got, want) {
		t.Errorf("the other way round: %v instead of %v", got, want)
	}
}

func TestCovered(t *testing.T) {
	for _, c := range []struct {
		name string
		r    api.Rect
		l    []api.Rect
		want bool
	}{
		{"the chapter's example", of(0, 0, 2, 1), []api.Rect{of(0, 0, 1, 1), of(1, 0, 2, 1)}, true},
		{"by nil", of(0, 0, 1, 1), nil, false},
		{"by no elements", of(0, 0, 1, 1), []api.Rect{}, false},
		{"by elements without points", of(0, 0, 1, 1), empties, false},
		{"by itself", of(-3, -2, 1, 1), []api.Rect{of(-3, -2, 1, 1)}, true},
		{"by more", of(1, 1, 2, 2), []api.Rect{of(0, 0, 3, 3)}, true},
		{"by less", of(0, 0, 3, 3), []api.Rect{of(1, 1, 2, 2)}, false},
		{"by the last one", of(0, 0, 3, 3), []api.Rect{of(8, 8, 9, 9), zero, of(1, 1, 2, 2), of(0, 0, 3, 3)}, true},
		{"by three of four quarters", of(0, 0, 2, 2), []api.Rect{of(0, 0, 1, 1), of(1, 0, 2, 1), of(0, 1, 1, 2)}, false},
		{"by four quarters", of(0, 0, 2, 2), []api.Rect{of(1, 1, 2, 2), of(0, 1, 1, 2), of(1, 0, 2, 1), of(0, 0, 1, 1)}, true},
		{"by overlapping elements", of(0, 0, 4, 2), []api.Rect{of(0, 0, 2, 2), of(2, 0, 4, 1), of(1, 1, 4, 4)}, true},
		{"but for a corner", of(0, 0, 4, 3), []api.Rect{of(0, 0, 2, 2), of(2, 0, 4, 1), of(1, 1, 4, 4)}, false},
		{"by equal halves", of(0, 0, 2, 2), []api.Rect{of(0, 0, 1, 2), of(0, 0, 1, 2)}, false},
		{"touching", of(0, 0, 2, 2), []api.Rect{of(2, 0, 4, 2), of(-2, 0, 0, 2), of(0, 2, 2, 4), of(0, -2, 2, 0)}, false},
		{"by all", of(5, 5, 6, 6), []api.Rect{all}, true},
		{"all by all", all, []api.Rect{all}, true},
		{"all but its last point", all, []api.Rect{of(least, least, most, most-1), of(least, most-1, most-1, most)}, false},
		{"all but its first point", all, []api.Rect{of(least, least+1, most, most), of(least+1, least, most, most)}, false},
		{"all by its halves", all, []api.Rect{of(least, 0, most, most), of(least, least, most, 0)}, true},
	} {
		if got := Covered(c.r, c.l); got != c.want {
			t.Errorf("%s: %t", c.name, got)
		}
	}
}

func TestNothingToCover(t *testing.T) {
	for _, e := range empties {
		for _, l := range [][]api.Rect{nil, {}, {e}, empties, {all}, {of(0, 0, 9, 9), of(-1, 2, 2, 3)}} {
			if got := Rest(e, l); len(got) != 0 {
				t.Errorf("Rest(%v, %v): %v", e, l, got)
			}
			if !Covered(e, l) {
				t.Errorf("%v, without points, is not covered by %v", e, l)
			}
		}
	}
}

func TestApart(t *testing.T) {
	a := of(0, 0, 2, 2)
	for _, c := range []struct {
		name string
		l    []api.Rect
		want bool
	}{
		{"nil", nil, true},
		{"no elements", []api.Rect{}, true},
		{"one", []api.Rect{a}, true},
		{"all alone", []api.Rect{all}, true},
		{"without points", empties, true},
		{"twice without points", slices.Concat(empties, empties), true},
		{"equal", []api.Rect{a, a}, false},
		{"equal, far from each other", []api.Rect{a, of(7, 7, 8, 8), zero, of(8, 7, 9, 8), a}, false},
		{"touching at a side", []api.Rect{a, of(2, 0, 4, 2)}, true},
		{"touching below", []api.Rect{a, of(0, 2, 2, 4)}, true},
		{"touching at a corner", []api.Rect{a, of(2, 2, 4, 4)}, true},
		{"sharing a corner's point", []api.Rect{a, of(1, 1, 4, 4)}, false},
		{"one inside the other", []api.Rect{of(-1, -1, 3, 3), a}, false},
		{"cross", []api.Rect{of(0, 3, 9, 4), of(4, 0, 5, 9)}, false},
		{"without points inside another", []api.Rect{of(0, 0, 9, 9), of(3, 3, 3, 5), of(6, 6, 4, 4)}, true},
		{"the first two", []api.Rect{a, of(1, 0, 3, 2), of(7, 7, 8, 8)}, false},
		{"the last two", []api.Rect{of(7, 7, 8, 8), a, of(1, 0, 3, 2)}, false},
		{"the first and the last", []api.Rect{a, of(7, 7, 8, 8), of(1, 0, 3, 2)}, false},
		{"all and another", []api.Rect{a, all}, false},
		{"all and what has no points", append([]api.Rect{all}, empties...), true},
		{"the halves of all", []api.Rect{of(least, least, 0, most), of(0, least, most, most)}, true},
		{"the halves of all, overlapping", []api.Rect{of(least, least, 1, most), of(0, least, most, most)}, false},
		{"the ends", []api.Rect{of(least, least, least+1, least+1), of(most-1, most-1, most, most)}, true},
	} {
		if got := Apart(c.l); got != c.want {
			t.Errorf("%s: %t", c.name, got)
		}
	}
}

func TestJoin(t *testing.T) {
	a, b := of(0, 0, 2, 2), of(5, 5, 7, 7)
	for _, c := range []struct {
		name string
		l    []api.Rect
		want []api.Rect
	}{
		{"nil", nil, nil},
		{"no elements", []api.Rect{}, nil},
		{"without points", empties, nil},
		{"one", []api.Rect{a}, []api.Rect{a}},
		{"equal", []api.Rect{a, a, a}, []api.Rect{a}},
		{"apart, in order", []api.Rect{b, a}, []api.Rect{b, a}},
		{"touching are not merged", []api.Rect{a, of(2, 0, 4, 2)}, []api.Rect{a, of(2, 0, 4, 2)}},
		{"one inside an earlier one", []api.Rect{of(0, 0, 9, 9), a, b}, []api.Rect{of(0, 0, 9, 9)}},
		{"one around an earlier one", []api.Rect{of(1, 1, 2, 2), of(0, 0, 3, 3)}, []api.Rect{
			of(1, 1, 2, 2), of(0, 0, 3, 1), of(0, 2, 3, 3), of(0, 1, 1, 2), of(2, 1, 3, 2),
		}},
		{"of the shared test", []api.Rect{a, of(2, 0, 4, 1), of(1, 1, 4, 4)}, []api.Rect{
			a, of(2, 0, 4, 1), of(1, 2, 4, 4), of(2, 1, 4, 2),
		}},
		{"without points in between", []api.Rect{zero, a, of(1, 1, 1, 9), of(1, 0, 3, 2), of(9, 9, 0, 0)}, []api.Rect{a, of(2, 0, 3, 2)}},
		{"all first", []api.Rect{all, a, b}, []api.Rect{all}},
		{"all last", []api.Rect{of(0, 1, 2, 3), all}, []api.Rect{
			of(0, 1, 2, 3), of(least, least, most, 1), of(least, 3, most, most), of(least, 1, 0, 3), of(2, 1, most, 3),
		}},
		{"the ends", []api.Rect{of(most-1, most-1, most, most), of(least, least, least+1, least+1)}, []api.Rect{
			of(most-1, most-1, most, most), of(least, least, least+1, least+1),
		}},
	} {
		if got := Join(c.l); !slices.Equal(got, c.want) {
			t.Errorf("%s: %v instead of %v", c.name, got, c.want)
		}
	}
}

// An element is cut by the pieces in the result, in their order, not by the elements they come from.
func TestJoinCutsByItsResult(t *testing.T) {
	a, b, c := of(0, 0, 1, 1), of(0, 0, 2, 2), of(1, -1, 4, 4)
	want := []api.Rect{
		a,
		of(0, 1, 2, 2), of(1, 0, 2, 1),
		of(1, -1, 4, 0), of(2, 0, 4, 1), of(1, 2, 4, 4), of(2, 1, 4, 2),
	}
	if got := Join([]api.Rect{a, b, c}); !slices.Equal(got, want) {
		t.Errorf("%v instead of %v", got, want)
	}
}

func TestArgumentsAreLeftUnchanged(t *testing.T) {
	list := []api.Rect{of(5, 5, 2, 2), of(1, 1, 2, 2), of(0, 0, 3, 3), of(1, 0, 2, 9), of(8, 8, 9, 9), all, all, all}
	want := slices.Clone(list)
	l := list[:4]
	Rest(of(0, 0, 9, 9), l)
	Covered(of(0, 0, 9, 9), l)
	Apart(l)
	Join(l)
	if !slices.Equal(list, want) {
		t.Errorf("the argument, or what is behind it, has become %v", list)
	}
}

// New memory includes the spare capacity: what is written there must show neither in an argument nor in another result.
func TestResultsAreNewMemory(t *testing.T) {
	list := []api.Rect{of(1, 0, 2, 3), of(5, 5, 7, 7), of(6, 6, 8, 8)}
	want := slices.Clone(list)
	for name, call := range map[string]func() []api.Rect{
		"Rest by nothing": func() []api.Rect { return Rest(of(0, 0, 3, 3), nil) },
		"Rest":            func() []api.Rect { return Rest(of(0, 0, 3, 3), list) },
		"Join of one":     func() []api.Rect { return Join(list[:1]) },
		"Join":            func() []api.Rect { return Join(list) },
	} {
		first, second := call(), call()
		kept := slices.Clone(second)
		for k := range first[:cap(first)] {
			first[:cap(first)][k] = all
		}
		if !slices.Equal(list, want) {
			t.Errorf("%s: the result shares memory with the argument", name)
		}
		if !slices.Equal(second, kept) || !slices.Equal(call(), kept) {
			t.Errorf("%s: two results share memory", name)
		}
	}
}

// Stripes both ways leave a number of pieces that grows with the square of theirs.
func TestManyElements(t *testing.T) {
	const n = 60
	var l []api.Rect
	for k := range int64(n) {
		l = append(l, of(2*k, -1, 2*k+1, 2*n+1), of(-1, 2*k, 2*n+1, 2*k+1))
	}
	r := of(0, 0, 2*n, 2*n)
	if got := Rest(r, l); len(got) != n*n || !Covered(r, append(slices.Clone(l), got...)) {
		t.Errorf("%d pieces are left", len(got))
	}
	if Covered(r, l) || !Covered(r, append(l, r)) {
		t.Error("covered")
	}
}

// every returns all rectangles with these coordinates, also those whose sides are the wrong way round.
func every(marks []int64) []api.Rect {
	var l []api.Rect
	for _, x0 := range marks {
		for _, y0 := range marks {
			for _, x1 := range marks {
				for _, y1 := range marks {
					l = append(l, of(x0, y0, x1, y1))
				}
			}
		}
	}
	return l
}

// points returns, as bits, which of the points with these coordinates are in r, by the definition alone.
// If all sides of all rectangles are among the (ascending) marks, any other point is in the same rectangles as the next mark down, so these points suffice.
func points(r api.Rect, marks []int64) uint64 {
	var set uint64
	for i, x := range marks {
		for j, y := range marks {
			if r.X0 <= x && x < r.X1 && r.Y0 <= y && y < r.Y1 {
				set |= 1 << (i*len(marks) + j)
			}
		}
	}
	return set
}

// byTheWords subtracts one element after another from all that is left, as the chapter says it.
func byTheWords(r api.Rect, l []api.Rect) []api.Rect {
	var now []api.Rect
	if !rect.Empty(r) {
		now = append(now, r)
	}
	for _, b := range l {
		var next []api.Rect
		for _, a := range now {
			next = append(next, rect.Cut(a, b)...)
		}
		now = next
	}
	return now
}

func TestAllPairs(t *testing.T) {
	for _, marks := range [][]int64{{0, 1, 2}, {least, 0, most}, {least, least + 1, most - 1, most}} {
		l := every(marks)
		for _, a := range l {
			for _, b := range l {
				checkRest(t, a, []api.Rect{b}, marks)
				checkList(t, []api.Rect{a, b}, marks)
			}
		}
	}
}

func TestAllTriples(t *testing.T) {
	for _, marks := range [][]int64{{0, 1, 2}, {least, 0, most}} {
		l := every(marks)
		for _, a := range l {
			for _, b := range l {
				for _, c := range l {
					checkRest(t, a, []api.Rect{b, c}, marks)
					checkList(t, []api.Rect{a, b, c}, marks)
				}
			}
		}
	}
}

// The lists are drawn by a fixed rule, so that each run checks the same ones.
func TestLongerLists(t *testing.T) {
	for _, marks := range [][]int64{
		{-3, -1, 0, 1, 2, 5, 8},
		{least, least + 1, -1, 0, 1, most - 1, most},
	} {
		state := uint64(1)
		draw := func(n int) int {
			state = state*6364136223846793005 + 1442695040888963407
			return int(state >> 33 % uint64(n))
		}
		side := func() int64 { return marks[draw(len(marks))] }
		for range 20000 {
			l := make([]api.Rect, draw(8))
			for k := range l {
				l[k] = of(side(), side(), side(), side())
				if draw(4) > 0 {
					r := l[k]
					l[k] = of(min(r.X0, r.X1), min(r.Y0, r.Y1), max(r.X0, r.X1), max(r.Y0, r.Y1))
				}
			}
			checkRest(t, of(marks[draw(3)], marks[draw(3)], marks[3+draw(4)], marks[3+draw(4)]), l, marks)
			checkList(t, l, marks)
		}
	}
}

// union returns the points of all elements of l, and whether the elements are non-empty and pairwise disjoint.
func union(l []api.Rect, marks []int64) (uint64, bool) {
	var sum uint64
	proper := true
	for _, r := range l {
		set := points(r, marks)
		proper = proper && set != 0 && set&sum == 0
		sum |= set
	}
	return sum, proper
}

func checkRest(t *testing.T, r api.Rect, l []api.Rect, marks []int64) {
	got := Rest(r, l)
	by, _ := union(l, marks)
	left := points(r, marks) &^ by
	if sum, proper := union(got, marks); sum != left || !proper {
		t.Errorf("Rest(%v, %v): %v", r, l, got)
	}
	if want := byTheWords(r, l); !slices.Equal(got, want) {
		t.Errorf("Rest(%v, %v): %v instead of %v", r, l, got, want)
	}
	if Covered(r, l) != (left == 0) {
		t.Errorf("Covered(%v, %v) is %t", r, l, left != 0)
	}
}

func checkList(t *testing.T, l []api.Rect, marks []int64) {
	in, _ := union(l, marks)
	got := Join(l)
	if sum, proper := union(got, marks); sum != in || !proper {
		t.Errorf("Join(%v): %v", l, got)
	}
	var want []api.Rect
	for _, r := range l {
		want = append(want, byTheWords(r, want)...)
	}
	if !slices.Equal(got, want) {
		t.Errorf("Join(%v): %v instead of %v", l, got, want)
	}
	apart := true
	for k, a := range l {
		for _, b := range l[:k] {
			apart = apart && points(a, marks)&points(b, marks) == 0
		}
	}
	if Apart(l) != apart {
		t.Errorf("Apart(%v) is %t", l, !apart)
	}
	if !Apart(got) {
		t.Errorf("the elements of Join(%v) are not apart: %v", l, got)
	}
}
