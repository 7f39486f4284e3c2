package hang

import (
	"math/big"
	"testing"

	"decoupage/size"
)

// exact is a number without limits; it is nil as long as it is auto.
type exact = *big.Int

// The places of the five in a list.
const (
	left = iota
	marginL
	width
	marginR
	right
)

func given(s size.Size) exact {
	if s.Auto {
		return nil
	}
	return big.NewInt(s.N)
}

// rest is Base without the surroundings and all of the five that are not auto.
func rest(in In, five [5]exact) exact {
	n := new(big.Int).Sub(big.NewInt(in.Base), big.NewInt(in.Around))
	for _, x := range five {
		if x != nil {
			n.Sub(n, x)
		}
	}
	return n
}

// zeroMargins makes margins that are auto 0.
func zeroMargins(five *[5]exact) {
	for _, i := range []int{marginL, marginR} {
		if five[i] == nil {
			five[i] = new(big.Int)
		}
	}
}

// putStatic puts the static position in.
func putStatic(in In, five *[5]exact) {
	if in.Turned {
		five[right] = big.NewInt(in.Behind)
	} else {
		five[left] = big.NewInt(in.Static)
	}
}

// noneAuto is the chapter's computation where none of Left, the width and Right is auto.
func noneAuto(in In, five [5]exact) [5]exact {
	switch {
	case five[marginL] == nil && five[marginR] == nil:
		n := rest(in, five)
		// big's Div rounds down for a positive divisor.
		five[marginL] = new(big.Int).Div(n, big.NewInt(2))
		if n.Sign() < 0 {
			five[marginL] = new(big.Int)
			if in.RTL {
				five[marginL] = n
			}
		}
		five[marginR] = rest(in, five)
	case five[marginL] == nil:
		five[marginL] = rest(in, five)
	case five[marginR] == nil:
		five[marginR] = rest(in, five)
	case in.RTL:
		five[left] = nil
		five[left] = rest(in, five)
	default:
		five[right] = nil
		five[right] = rest(in, five)
	}
	return five
}

// byWidth is the chapter's computation for one width, sentence by sentence.
func byWidth(in In, wide size.Size) [5]exact {
	five := [5]exact{given(in.Left), given(in.MarginL), given(wide), given(in.MarginR), given(in.Right)}
	switch {
	case five[left] == nil && five[width] == nil && five[right] == nil:
		zeroMargins(&five)
		putStatic(in, &five)
		five[width] = big.NewInt(in.Want)
	case five[left] != nil && five[width] != nil && five[right] != nil:
		return noneAuto(in, five)
	default:
		zeroMargins(&five)
		if five[left] == nil && five[right] == nil {
			putStatic(in, &five)
		}
		if five[width] == nil && (five[left] == nil || five[right] == nil) {
			five[width] = big.NewInt(in.Want)
		}
	}
	for _, i := range []int{left, width, right} {
		if five[i] == nil {
			five[i] = rest(in, five)
			break
		}
	}
	return five
}

// inLimits reports whether each of l that is not auto is in the range of numbers that fit.
func inLimits(l ...exact) bool {
	for _, x := range l {
		if x != nil && x.CmpAbs(big.NewInt(maxUnit)) > 0 {
			return false
		}
	}
	return true
}

// byHand is the promise: each width that is tried, one after the other.
func byHand(in In) (Out, bool) {
	if !inLimits(big.NewInt(in.Base), big.NewInt(in.Around), big.NewInt(in.Want), big.NewInt(in.Static), big.NewInt(in.Behind),
		given(in.Left), given(in.MarginL), given(in.Wide), given(in.MarginR), given(in.Right)) {
		return Out{}, false
	}
	last := byWidth(in, in.Wide)
	ok := inLimits(last[:]...)
	if ok && last[width].Cmp(big.NewInt(in.Most)) > 0 {
		last = byWidth(in, units(in.Most))
		ok = inLimits(last[:]...)
	}
	if ok && last[width].Cmp(big.NewInt(in.Least)) < 0 {
		last = byWidth(in, units(in.Least))
		ok = inLimits(last[:]...)
	}
	if !ok {
		return Out{}, false
	}
	return Out{last[left].Int64(), last[marginL].Int64(), last[width].Int64(), last[marginR].Int64(), last[right].Int64()}, true
}

// choice is what questions are made of.
type choice struct {
	base, around, want, static, behind, least, most []int64
	left, marginL, wide, marginR, right             []size.Size
}

// numberOf is how many questions a choice has.
func (c choice) numberOf() int {
	n := 4
	for _, l := range [][]int64{c.base, c.around, c.want, c.static, c.behind, c.least, c.most} {
		n *= len(l)
	}
	for _, l := range [][]size.Size{c.left, c.marginL, c.wide, c.marginR, c.right} {
		n *= len(l)
	}
	return n
}

// question is the i-th combination.
func (c choice) question(i int) In {
	next := func(n int) int {
		k := i % n
		i /= n
		return k
	}
	number := func(l []int64) int64 { return l[next(len(l))] }
	of := func(l []size.Size) size.Size { return l[next(len(l))] }
	return In{
		RTL: next(2) == 1, Turned: next(2) == 1,
		Left: of(c.left), Wide: of(c.wide), Right: of(c.right), MarginL: of(c.marginL), MarginR: of(c.marginR),
		Least: number(c.least), Most: number(c.most), Base: number(c.base), Around: number(c.around),
		Want: number(c.want), Static: number(c.static), Behind: number(c.behind),
	}
}

// compare holds Solve against byHand for every step-th combination, and counts the answers that are true and that are false.
func (c choice) compare(t *testing.T, step int) (yes, no int) {
	t.Helper()
	for i := 0; i < c.numberOf(); i += step {
		in := c.question(i)
		want, wantOk := byHand(in)
		o, ok := Solve(in)
		if ok != wantOk || o != want {
			t.Fatalf("%+v: %+v, %t instead of %+v, %t", in, o, ok, want, wantOk)
		}
		if !ok {
			no++
			continue
		}
		yes++
		if o.Left+o.MarginL+in.Around+o.Wide+o.MarginR+o.Right != in.Base {
			t.Fatalf("%+v: %+v does not sum to Base", in, o)
		}
	}
	return yes, no
}

// sizes are auto and each of these numbers.
func sizes(l ...int64) []size.Size {
	s := []size.Size{auto}
	for _, n := range l {
		s = append(s, units(n))
	}
	return s
}

func TestSmallNumbersByHand(t *testing.T) {
	yes, no := choice{
		base: []int64{0, 20, 21}, around: []int64{0, 3}, want: []int64{8, 30}, static: []int64{4}, behind: []int64{-2},
		least: []int64{0, 7, -99}, most: []int64{99, 6, 12},
		left: sizes(0, 4, -5), marginL: sizes(0, -6), wide: sizes(0, 9, -8), marginR: sizes(0, 5), right: sizes(0, 5, 31),
	}.compare(t, 1)
	if yes == 0 || no != 0 {
		t.Errorf("%d with and %d without a result", yes, no)
	}
}

// Of the combinations of numbers at the limits, a part; the step has no divisor in common with what it steps through.
func TestGreatNumbersByHand(t *testing.T) {
	at := maxUnit
	yes, no := choice{
		base: []int64{0, at, 1 - at, -at - 1}, around: []int64{0, at, 2 - at}, want: []int64{1, at, -at}, static: []int64{0, at, -at}, behind: []int64{0, at, 3 - at},
		least: []int64{0, -at, at + 1, minInt}, most: []int64{at, -3, -at - 1, maxInt},
		left: sizes(0, at, -at), marginL: sizes(0, -at, at), wide: sizes(1, at, -at), marginR: sizes(0, at-1), right: sizes(0, at, -at-1),
	}.compare(t, 101)
	if yes < 10000 || no < 10000 {
		t.Errorf("%d with and %d without a result", yes, no)
	}
}
