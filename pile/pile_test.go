package pile

import (
	"math"
	"math/big"
	"slices"
	"testing"

	"decoupage/api"
	"decoupage/strut"
)

const maxUnit = int64(api.MaxUnit)

// of is the strut of both margins.
func of(p, n int64) strut.Strut { return strut.Strut{P: p, N: n} }

// solid is a child through which margins do not collapse.
func solid(top, bottom strut.Strut, high int64) Child {
	return Child{Top: top, Bottom: bottom, High: high}
}

// through is a child through which margins collapse.
func through(top, inner strut.Strut) Child {
	return Child{Top: top, Bottom: top, Inner: inner, Through: true}
}

// same compares two piles; a list without elements may be nil or empty.
func same(a, b Pile) bool {
	return slices.Equal(a.Y, b.Y) && a.Edge == b.Edge && a.Top == b.Top && a.Cur == b.Cur && a.AtTop == b.AtTop
}

type question struct {
	name string
	l    []Child
	open bool
	want Pile
}

// check asks each question, whose answer is a pile.
func check(t *testing.T, all []question) {
	t.Helper()
	for _, q := range all {
		if p, ok := Stack(q.l, q.open); !ok || !same(p, q.want) {
			t.Errorf("%s: %+v, %t instead of %+v", q.name, p, ok, q.want)
		}
	}
}

func TestStackNoChildren(t *testing.T) {
	check(t, []question{
		{"nil, open", nil, true, Pile{AtTop: true}},
		{"nil, not open", nil, false, Pile{}},
		{"empty, open", []Child{}, true, Pile{AtTop: true}},
		{"empty, not open", []Child{}, false, Pile{}},
	})
}

func TestStackOneChild(t *testing.T) {
	one := []Child{solid(of(5, -1), of(7, -2), 10)}
	flat := []Child{through(of(20, -3), of(9, -1))}
	check(t, []question{
		{"solid, open", one, true, Pile{Y: []int64{0}, Edge: 10, Top: of(5, -1), Cur: of(7, -2)}},
		{"solid, not open", one, false, Pile{Y: []int64{4}, Edge: 14, Cur: of(7, -2)}},
		{"through, open", flat, true, Pile{Y: []int64{0}, Top: of(20, -3), AtTop: true}},
		{"through, not open", flat, false, Pile{Y: []int64{8}, Cur: of(20, -3)}},
		{"zero, open", []Child{{}}, true, Pile{Y: []int64{0}}},
		{"zero, not open", []Child{{}}, false, Pile{Y: []int64{0}}},
		{"zero and through, open", []Child{{Through: true}}, true, Pile{Y: []int64{0}, AtTop: true}},
		{"zero and through, not open", []Child{{Through: true}}, false, Pile{Y: []int64{0}}},
	})
}

// The chapter's example: of the margins 5 and 7, the greater one is between the two.
func TestStackExample(t *testing.T) {
	l := []Child{solid(of(0, 0), of(5, 0), 10), solid(of(7, 0), of(0, 0), 10)}
	want := Pile{Y: []int64{0, 17}, Edge: 27}
	check(t, []question{{"open", l, true, want}, {"not open", l, false, want}})
}

func TestStackAtTheTop(t *testing.T) {
	a := through(of(3, -1), of(2, 0))
	b := through(of(1, -6), of(0, -5))
	c := solid(of(4, -2), of(8, -7), 30)
	d := solid(of(9, -9), of(6, 0), 5)
	check(t, []question{
		{"several, and the one that ends it", []Child{a, b, c}, true, Pile{Y: []int64{0, 0, 0}, Edge: 30, Top: of(4, -6), Cur: of(8, -7)}},
		{"one below them", []Child{a, b, c, d}, true, Pile{Y: []int64{0, 0, 0, 30}, Edge: 35, Top: of(4, -6), Cur: of(6, 0)}},
		{"not open", []Child{a, b, c}, false, Pile{Y: []int64{2, -2, -2}, Edge: 28, Cur: of(8, -7)}},
		{"all of them", []Child{a, b}, true, Pile{Y: []int64{0, 0}, Top: of(3, -6), AtTop: true}},
		{"all of them, the other way round", []Child{b, a}, true, Pile{Y: []int64{0, 0}, Top: of(3, -6), AtTop: true}},
		{"all of them, not open", []Child{a, b}, false, Pile{Y: []int64{2, -2}, Cur: of(3, -6)}},
		{"one after the one that ends it", []Child{c, a}, true, Pile{Y: []int64{0, 31}, Edge: 30, Top: of(4, -2), Cur: of(8, -7)}},
		{"without height, but not through", []Child{solid(of(4, 0), of(4, 0), 0), a}, true, Pile{Y: []int64{0, 4}, Top: of(4, 0), Cur: of(4, -1)}},
	})
}

// What margins collapse through is between what they adjoin: each one's position is that of its own top margin.
func TestStackThroughBetweenOthers(t *testing.T) {
	a := solid(of(0, 0), of(7, -2), 10)
	b := through(of(20, -3), of(9, 0))
	c := through(of(12, -8), of(25, -1))
	d := solid(of(3, -4), of(1, -1), 30)
	check(t, []question{
		{"one", []Child{a, b, d}, false, Pile{Y: []int64{0, 17, 26}, Edge: 56, Cur: of(1, -1)}},
		{"two", []Child{a, b, c, d}, false, Pile{Y: []int64{0, 17, 32, 22}, Edge: 52, Cur: of(1, -1)}},
		{"two, the other way round", []Child{a, c, b, d}, false, Pile{Y: []int64{0, 33, 14, 22}, Edge: 52, Cur: of(1, -1)}},
		{"two in an open box", []Child{a, b, c, d}, true, Pile{Y: []int64{0, 17, 32, 22}, Edge: 52, Cur: of(1, -1)}},
		{"one at the end", []Child{a, b}, false, Pile{Y: []int64{0, 17}, Edge: 10, Cur: of(20, -3)}},
		{"two at the end", []Child{a, b, c}, false, Pile{Y: []int64{0, 17, 32}, Edge: 10, Cur: of(20, -8)}},
		{"between, and again", []Child{a, b, d, b, d}, false, Pile{Y: []int64{0, 17, 26, 64, 72}, Edge: 102, Cur: of(1, -1)}},
	})
}

func TestStackMargins(t *testing.T) {
	none := of(0, 0)
	check(t, []question{
		{"none: adjacent", []Child{solid(none, none, 4), solid(none, none, 5), solid(none, none, 6)}, false, Pile{Y: []int64{0, 4, 9}, Edge: 15}},
		{"positive", []Child{solid(of(2, 0), of(3, 0), 4), solid(of(8, 0), of(1, 0), 5)}, false, Pile{Y: []int64{2, 14}, Edge: 19, Cur: of(1, 0)}},
		{"negative", []Child{solid(of(0, -2), of(0, -3), 4), solid(of(0, -8), of(0, -1), 5)}, false, Pile{Y: []int64{-2, -6}, Edge: -1, Cur: of(0, -1)}},
		{"one of each", []Child{solid(none, of(9, 0), 4), solid(of(0, -3), none, 5)}, false, Pile{Y: []int64{0, 10}, Edge: 15}},
		{"one of each, the other way round", []Child{solid(none, of(0, -3), 4), solid(of(9, 0), none, 5)}, false, Pile{Y: []int64{0, 10}, Edge: 15}},
		{"both in each", []Child{solid(none, of(6, -1), 4), solid(of(2, -5), none, 5)}, false, Pile{Y: []int64{0, 5}, Edge: 10}},
		{"one that undoes the height", []Child{solid(none, none, 4), solid(of(0, -4), none, 5)}, false, Pile{Y: []int64{0, 0}, Edge: 5}},
		{"at the bottom of a child between others", []Child{solid(none, of(2, 0), 4), solid(of(0, 0), of(7, 0), 5), solid(of(3, 0), none, 6)}, false, Pile{Y: []int64{0, 6, 18}, Edge: 24}},
	})
}

// Only the fields that the chapter speaks of count: Inner without Through, Bottom and High with it have no part in it.
func TestStackOtherFields(t *testing.T) {
	a := solid(of(5, 0), of(7, 0), 10)
	b := a
	b.Inner = of(100, -100)
	c := through(of(20, 0), of(9, 0))
	d := c
	d.Bottom, d.High = of(100, -100), 1000
	for _, open := range []bool{false, true} {
		p, ok := Stack([]Child{a, c, a, c}, open)
		q, okToo := Stack([]Child{b, d, b, d}, open)
		if !ok || !okToo || !same(p, q) {
			t.Errorf("open %t: %+v, %t and %+v, %t", open, p, ok, q, okToo)
		}
	}
}

type limit struct {
	name string
	l    []Child
	open bool
	ok   bool
}

// checkLimits asks whether there is a pile, and that there is none of it otherwise.
func checkLimits(t *testing.T, all []limit) {
	t.Helper()
	for _, c := range all {
		p, ok := Stack(c.l, c.open)
		if ok != c.ok {
			t.Errorf("%s: %+v, %t", c.name, p, ok)
		}
		if ok && len(p.Y) != len(c.l) {
			t.Errorf("%s: %d positions for %d children", c.name, len(p.Y), len(c.l))
		}
		if !ok && (len(p.Y) != 0 || !same(p, Pile{})) {
			t.Errorf("%s: %+v with false", c.name, p)
		}
	}
}

// The first child through which margins do not collapse, at the top, is in no sum: its height is asked about by itself.
func TestStackHeightAtTheTop(t *testing.T) {
	for _, c := range []struct {
		high int64
		ok   bool
	}{
		{0, true},
		{-1, true},
		{maxUnit, true},
		{maxUnit + 1, false},
		{-maxUnit, true},
		{-maxUnit - 1, false},
		{math.MaxInt64, false},
		{math.MinInt64, false},
	} {
		flat := through(of(2, 0), of(1, 0))
		child := solid(of(5, 0), of(7, 0), c.high)
		checkLimits(t, []limit{
			{"alone", []Child{child}, true, c.ok},
			{"after others", []Child{flat, flat, child}, true, c.ok},
			{"before one that adds nothing", []Child{child, through(of(0, -8), of(0, -7))}, true, c.ok},
		})
		if p, ok := Stack([]Child{flat, child}, true); ok && (p.Edge != c.high || p.Cur != of(7, 0) || p.Top != of(5, 0)) {
			t.Errorf("height %d: %+v", c.high, p)
		}
	}
}

func TestStackPositionAtTheLimits(t *testing.T) {
	none := of(0, 0)
	top := func(high int64) Child { return solid(none, none, high) }
	check(t, []question{
		{"Y at MaxUnit", []Child{top(maxUnit - 5), solid(of(5, 0), none, 0)}, false, Pile{Y: []int64{0, maxUnit}, Edge: maxUnit}},
		{"Y at -MaxUnit", []Child{top(5 - maxUnit), solid(of(0, -5), none, 0)}, false, Pile{Y: []int64{0, -maxUnit}, Edge: -maxUnit}},
		{"Y of one through at MaxUnit", []Child{top(maxUnit - 5), through(of(6, 0), of(5, 0))}, true, Pile{Y: []int64{0, maxUnit}, Edge: maxUnit - 5, Cur: of(6, 0)}},
		{"a margin that undoes another", []Child{top(maxUnit), solid(of(0, -maxUnit), none, maxUnit)}, false, Pile{Y: []int64{0, 0}, Edge: maxUnit}},
	})
	checkLimits(t, []limit{
		{"Y one beyond MaxUnit", []Child{top(maxUnit - 5), solid(of(6, 0), none, 0)}, false, false},
		{"Y one beyond MaxUnit, and back", []Child{top(maxUnit - 5), solid(of(6, 0), none, -6)}, false, false},
		{"Y one beyond -MaxUnit", []Child{top(5 - maxUnit), solid(of(0, -6), none, 0)}, false, false},
		{"Y one beyond -MaxUnit, and back", []Child{top(5 - maxUnit), solid(of(0, -6), none, 6)}, false, false},
		{"Y of one through one beyond MaxUnit", []Child{top(maxUnit - 5), through(of(5, 0), of(6, 0))}, true, false},
		{"Y of one through one beyond MaxUnit, though not the next one's", []Child{top(maxUnit - 5), through(of(5, 0), of(6, 0)), solid(none, none, 0)}, true, false},
		{"Y that only Top would take beyond MaxUnit", []Child{top(maxUnit - 5), through(of(6, 0), of(5, 0))}, false, true},
		{"the same, with one that follows", []Child{top(maxUnit - 5), through(of(6, 0), of(5, 0)), solid(none, none, 0)}, false, false},
	})
}

func TestStackEdgeAtTheLimits(t *testing.T) {
	none := of(0, 0)
	checkLimits(t, []limit{
		{"first, at MaxUnit", []Child{solid(of(5, 0), none, maxUnit-5)}, false, true},
		{"first, one beyond", []Child{solid(of(5, 0), none, maxUnit-4)}, false, false},
		{"first, at -MaxUnit", []Child{solid(of(0, -5), none, 5-maxUnit)}, false, true},
		{"first, one beyond -MaxUnit", []Child{solid(of(0, -5), none, 4-maxUnit)}, false, false},
		{"last alone, at MaxUnit", []Child{solid(none, none, maxUnit/2), solid(none, none, maxUnit/2)}, true, true},
		{"last alone, one beyond", []Child{solid(none, none, maxUnit/2), solid(none, none, maxUnit/2+1)}, true, false},
		{"last alone, at -MaxUnit", []Child{solid(none, none, -maxUnit/2), solid(none, none, -maxUnit/2)}, true, true},
		{"last alone, one beyond -MaxUnit", []Child{solid(none, none, -maxUnit/2), solid(none, none, -maxUnit/2-1)}, true, false},
		{"not the last one", []Child{solid(none, none, maxUnit), solid(none, none, 1), solid(of(0, -9), none, 0)}, true, false},
		{"a height that does not fit", []Child{solid(none, none, maxUnit+1)}, false, false},
		{"a height that does not fit, in a sum that would", []Child{solid(of(0, -9), none, maxUnit+1)}, false, false},
		{"a negative height that does not fit, in a sum that would", []Child{solid(of(9, 0), none, -maxUnit-1)}, false, false},
		{"the greatest height", []Child{solid(of(9, 0), none, math.MaxInt64)}, false, false},
		{"the smallest height", []Child{solid(of(0, -9), none, math.MinInt64)}, false, false},
	})
}

func TestStackValueAtTheLimits(t *testing.T) {
	none := of(0, 0)
	var all []limit
	for _, c := range []struct {
		name string
		s    strut.Strut
		ok   bool
	}{
		{"MaxUnit", of(maxUnit, 0), true},
		{"one beyond MaxUnit", of(maxUnit+1, 0), false},
		{"one beyond MaxUnit, and back", of(maxUnit+1, -1), false},
		{"-MaxUnit", of(0, -maxUnit), true},
		{"one beyond -MaxUnit", of(0, -maxUnit-1), false},
		{"one beyond -MaxUnit, and back", of(1, -maxUnit-1), false},
		{"both limits", of(maxUnit, -maxUnit), true},
		{"the greatest and the smallest", of(math.MaxInt64, math.MinInt64), false},
	} {
		all = append(all,
			limit{c.name + " at the top of the first", []Child{solid(c.s, none, 0)}, false, c.ok},
			limit{c.name + " at the top of the first of an open box", []Child{solid(c.s, none, 0)}, true, true},
			limit{c.name + " at the bottom of the last", []Child{solid(none, c.s, 0)}, false, true},
			limit{c.name + " at a bottom", []Child{solid(none, c.s, 0), solid(none, none, 0)}, true, c.ok},
			limit{c.name + " at a top", []Child{solid(none, none, 0), solid(c.s, none, 0)}, true, c.ok},
			limit{c.name + " as Inner", []Child{through(none, c.s)}, false, c.ok},
			limit{c.name + " as Inner at the top", []Child{through(none, c.s)}, true, true},
			limit{c.name + " as Top of the last one through", []Child{through(c.s, none)}, false, true},
			limit{c.name + " as Top of one through", []Child{through(c.s, none), through(none, none)}, false, c.ok},
			limit{c.name + " as Top of one through, at the top", []Child{through(c.s, none), solid(c.s, none, 0), solid(none, none, 0)}, true, true},
		)
	}
	all = append(all,
		limit{"joined, at the limits", []Child{solid(none, of(maxUnit, 0), 0), solid(of(0, -maxUnit), none, 0)}, true, true},
		limit{"joined, one with a number that does not fit", []Child{solid(none, of(maxUnit, 0), 0), solid(of(0, -maxUnit-1), none, 0)}, true, false},
	)
	checkLimits(t, all)
}

// What is in none of the sums may be any number.
func TestStackNumbersThatNoSumUses(t *testing.T) {
	none := of(0, 0)
	for _, n := range []int64{maxUnit + 1, -maxUnit - 1, math.MaxInt64, math.MinInt64} {
		odd := of(n, n)
		flat := Child{Through: true, Bottom: odd, High: n}
		base := solid(none, none, 10)
		thick := base
		thick.Inner = odd
		end := solid(none, odd, 10)
		join := strut.Join(strut.Strut{}, odd)
		check(t, []question{
			{"height and bottom of one through", []Child{base, flat, base}, false, Pile{Y: []int64{0, 10, 10}, Edge: 20}},
			{"height and bottom of one through, at the top", []Child{flat, base}, true, Pile{Y: []int64{0, 0}, Edge: 10}},
			{"inner of another one", []Child{thick, thick}, false, Pile{Y: []int64{0, 10}, Edge: 20}},
			{"bottom of the last one", []Child{base, end}, false, Pile{Y: []int64{0, 10}, Edge: 20, Cur: odd}},
			{"bottom of the last one, at the top", []Child{end}, true, Pile{Y: []int64{0}, Edge: 10, Cur: odd}},
			{"top of the last one through", []Child{base, through(odd, none)}, false, Pile{Y: []int64{0, 10}, Edge: 10, Cur: join}},
			{"top and inner at the top", []Child{through(odd, odd)}, true, Pile{Y: []int64{0}, Top: join, AtTop: true}},
			{"top of the one that ends it", []Child{solid(odd, none, 10)}, true, Pile{Y: []int64{0}, Edge: 10, Top: join}},
		})
	}
}

// exact is a sum without limits; each of its elements has to fit, and it itself.
func exact(l ...int64) (int64, bool) {
	limit := big.NewInt(maxUnit)
	total := new(big.Int)
	for _, n := range l {
		next := big.NewInt(n)
		if next.CmpAbs(limit) > 0 {
			return 0, false
		}
		total.Add(total, next)
	}
	if total.CmpAbs(limit) > 0 {
		return 0, false
	}
	return total.Int64(), true
}

// margins gathers the greatest positive and the least negative margin of all struts.
func margins(l ...strut.Strut) strut.Strut {
	s := l[0]
	for _, a := range l[1:] {
		if a.P > s.P {
			s.P = a.P
		}
		if a.N < s.N {
			s.N = a.N
		}
	}
	return s
}

// solidBefore returns the index of the last child before i through which margins do not collapse, or -1.
func solidBefore(l []Child, i int) int {
	for j := i - 1; j >= 0; j-- {
		if !l[j].Through {
			return j
		}
	}
	return -1
}

// curBefore gathers Cur from the children themselves: the bottom of the last solid one and the tops of those after it.
func curBefore(l []Child, i int, open bool) strut.Strut {
	j := solidBefore(l, i)
	s := []strut.Strut{{}}
	if j >= 0 {
		s[0] = l[j].Bottom
	}
	if j < 0 && open {
		return s[0]
	}
	for _, c := range l[j+1 : i] {
		s = append(s, c.Top)
	}
	return margins(s...)
}

// topByHand gathers Top: the tops of the children up to the first solid one.
func topByHand(l []Child, open bool) strut.Strut {
	s := []strut.Strut{{}}
	for i, c := range l {
		if open && solidBefore(l, i) < 0 {
			s = append(s, c.Top)
		}
	}
	return margins(s...)
}

// byHand is the definition of the pile, written out a second time: each child is looked at by itself instead of after the preceding one.
func byHand(l []Child, open bool) (Pile, bool) {
	p := Pile{Y: make([]int64, len(l)), Top: topByHand(l, open), Cur: curBefore(l, len(l), open)}
	p.AtTop = open && solidBefore(l, len(l)) < 0
	for i, c := range l {
		above := solidBefore(l, i)
		top := open && above < 0
		if !top {
			own := c.Top
			if c.Through {
				own = c.Inner
			}
			s := margins(curBefore(l, i, open), own)
			gap, ok := exact(s.P, s.N)
			if !ok {
				return Pile{}, false
			}
			if p.Y[i], ok = exact(p.Edge, gap); !ok {
				return Pile{}, false
			}
		}
		if c.Through {
			continue
		}
		var ok bool
		if p.Edge, ok = exact(p.Y[i], c.High); !ok {
			return Pile{}, false
		}
	}
	return p, true
}

// kinds are children of every kind, with numbers from the given ones.
func kinds(high []int64, all []strut.Strut) []Child {
	var l []Child
	for i, a := range all {
		for j, b := range all {
			l = append(l, solid(a, b, high[(i+j)%len(high)]), through(a, b))
		}
	}
	return l
}

// compare holds Stack against byHand, and returns how many of the answers are piles.
func compare(t *testing.T, l []Child) int {
	t.Helper()
	piles := 0
	for _, open := range []bool{false, true} {
		p, ok := Stack(l, open)
		want, wantOk := byHand(l, open)
		if ok != wantOk || !same(p, want) {
			t.Fatalf("%+v, open %t: %+v, %t instead of %+v, %t", l, open, p, ok, want, wantOk)
		}
		if ok {
			piles++
		}
	}
	return piles
}

func TestStackOfAnyThree(t *testing.T) {
	small := kinds([]int64{0, 1, 7, -2}, []strut.Strut{{}, of(3, 0), of(0, -4), of(5, -2)})
	great := kinds([]int64{maxUnit, 1, -maxUnit, math.MaxInt64, maxUnit + 1}, []strut.Strut{{}, of(maxUnit, -1), of(1, -maxUnit), of(math.MaxInt64, math.MinInt64), of(-3, 2)})
	for _, set := range [][]Child{small, great} {
		piles, asked := 0, 0
		for _, a := range set {
			for _, b := range set {
				for _, c := range set {
					piles += compare(t, []Child{a, b, c})
					asked += 2
				}
			}
		}
		if piles == 0 {
			t.Errorf("none of %d answers is a pile", asked)
		}
	}
}

// Longer lists are drawn by a rule, so that each run asks the same.
func TestStackOfLongLists(t *testing.T) {
	set := kinds([]int64{0, 1, 40, -2}, []strut.Strut{{}, of(3, 0), of(0, -4), of(5, -2), of(11, -11)})
	state := uint64(1)
	for range 3000 {
		state = state*6364136223846793005 + 1442695040888963407
		l := make([]Child, state>>58%24)
		for i := range l {
			state = state*6364136223846793005 + 1442695040888963407
			l[i] = set[state>>33%uint64(len(set))]
		}
		if compare(t, l) != 2 {
			t.Fatalf("no pile of small numbers: %+v", l)
		}
	}
}

// A sum of many heights is as exact as one of two.
func TestStackManyChildren(t *testing.T) {
	const many = 1 << 14
	l := make([]Child, many)
	for i := range l {
		l[i] = solid(of(0, 0), of(0, 0), maxUnit/many)
	}
	p, ok := Stack(l, true)
	if !ok || p.Edge != maxUnit || len(p.Y) != many || p.Y[many-1] != maxUnit-maxUnit/many {
		t.Errorf("Edge %d of %d, %t", p.Edge, len(p.Y), ok)
	}
	l[many-1].High++
	if p, ok := Stack(l, true); ok || !same(p, Pile{}) {
		t.Errorf("one beyond: Edge %d, %t", p.Edge, ok)
	}
}

// spare is a list with children behind its end.
func spare() []Child {
	l := []Child{solid(of(5, -1), of(7, -2), 10), through(of(20, 0), of(9, 0)), solid(of(3, 0), of(1, 0), 4)}
	l = append(l, solid(of(99, 0), of(99, 0), 99), through(of(98, 0), of(97, 0)))
	return l[:3]
}

func TestStackLeavesItsArgument(t *testing.T) {
	for _, open := range []bool{false, true} {
		l := spare()
		Stack(l, open)
		if all := spare(); !slices.Equal(l[:5], all[:5]) {
			t.Errorf("open %t: %+v instead of %+v", open, l[:5], all[:5])
		}
	}
}

func TestStackAnswersAlike(t *testing.T) {
	for _, open := range []bool{false, true} {
		l := spare()
		first, ok := Stack(l, open)
		want := slices.Clone(first.Y)
		second, okToo := Stack(l, open)
		if !ok || !okToo || !same(first, second) {
			t.Fatalf("open %t: %+v, then %+v", open, first, second)
		}
		// Neither a change of one answer nor one of the list shows in another answer.
		for i := range first.Y[:cap(first.Y)] {
			first.Y[:cap(first.Y)][i] = -99
		}
		l[0].High = 500
		if !slices.Equal(second.Y, want) {
			t.Errorf("open %t: %v instead of %v", open, second.Y, want)
		}
		if third, ok := Stack(spare(), open); !ok || !same(third, second) {
			t.Errorf("open %t: %+v instead of %+v", open, third, second)
		}
	}
}
