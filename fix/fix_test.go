package fix

import (
	"math"
	"math/big"
	"slices"
	"testing"

	"decoupage/api"
)

const (
	maxUnit = int64(api.MaxUnit)
	maxPart = int64(api.MaxPart)
)

func TestFits(t *testing.T) {
	for _, n := range []int64{0, 1, -1, 64, maxUnit - 1, maxUnit, 1 - maxUnit, -maxUnit} {
		if !Fits(n) {
			t.Errorf("Fits(%d) is false", n)
		}
	}
	for _, n := range []int64{maxUnit + 1, -maxUnit - 1, 2 * maxUnit, math.MaxInt64, math.MinInt64} {
		if Fits(n) {
			t.Errorf("Fits(%d) is true", n)
		}
	}
}

func repeat(n int64, times int) []int64 { return slices.Repeat([]int64{n}, times) }

func TestSum(t *testing.T) {
	for _, c := range []struct {
		name string
		l    []int64
		n    int64
		ok   bool
	}{
		{"nil", nil, 0, true},
		{"empty", []int64{}, 0, true},
		{"one", []int64{7}, 7, true},
		{"some", []int64{1, 2, 3}, 6, true},
		{"negative", []int64{-1, -2, 1}, -2, true},
		{"cancelling", []int64{5, -5}, 0, true},
		{"greatest", []int64{maxUnit - 1, 1}, maxUnit, true},
		{"least", []int64{1 - maxUnit, -1}, -maxUnit, true},
		{"one too great", []int64{maxUnit, 1}, 0, false},
		{"one too small", []int64{-maxUnit, -1}, 0, false},
		{"partial sums too great", []int64{maxUnit, maxUnit, -maxUnit}, maxUnit, true},
		{"partial sums too small", []int64{-maxUnit, -maxUnit, maxUnit, 3}, 3 - maxUnit, true},
		{"element too great", []int64{maxUnit + 1}, 0, false},
		{"element too small", []int64{-maxUnit - 1}, 0, false},
		{"first element does not fit, sum does", []int64{maxUnit + 1, -5}, 0, false},
		{"last element does not fit, sum does", []int64{5, -maxUnit - 1}, 0, false},
		{"elements that do not fit cancel", []int64{math.MaxInt64, -math.MaxInt64}, 0, false},
		{"least int64", []int64{math.MinInt64, math.MinInt64}, 0, false},
	} {
		if n, ok := Sum(c.l...); n != c.n || ok != c.ok {
			t.Errorf("%s: %d, %t instead of %d, %t", c.name, n, ok, c.n, c.ok)
		}
	}
}

// 2^13 elements of MaxUnit exceed int64, and 2^14 of them wrap round to 0.
func TestSumBeyondInt64(t *testing.T) {
	for _, count := range []int{1<<13 - 1, 1 << 13, 1<<13 + 1, 1 << 14, 1<<14 + 1, 1 << 15} {
		for _, n := range []int64{maxUnit, -maxUnit} {
			l := repeat(n, count)
			if got, ok := Sum(l...); got != 0 || ok {
				t.Errorf("%d times %d: %d, %t", count, n, got, ok)
			}
			l = append(append(l, repeat(-n, count)...), 9)
			if got, ok := Sum(l...); got != 9 || !ok {
				t.Errorf("%d times %d and back: %d, %t", count, n, got, ok)
			}
		}
	}
}

func TestSumLeavesItsArgument(t *testing.T) {
	whole := []int64{3, -4, maxUnit, 11, 12}
	want := slices.Clone(whole)
	Sum(whole[:3]...)
	if !slices.Equal(whole, want) {
		t.Errorf("the argument has become %v", whole)
	}
}

func TestPart(t *testing.T) {
	for _, c := range [][3]int64{
		{3, 5000, 1},
		{3, -5000, -2},
		{4, -5000, -2},
		{0, 0, 0},
		{0, maxPart, 0},
		{0, -1, 0},
		{100, 0, 0},
		{100, 10000, 100},
		{100, -10000, -100},
		{7, 3333, 2},
		{7, -3333, -3},
		{1, 9999, 0},
		{1, -9999, -1},
		{1, 1, 0},
		{1, -1, -1},
		{10000, 1, 1},
		{10000, -1, -1},
		{9999, -1, -1},
		{10001, -1, -2},
		{1, maxPart, 100},
		{1, -maxPart, -100},
		{maxUnit, 10000, maxUnit},
		{maxUnit, -10000, -maxUnit},
		{maxUnit, 9999, 1125787316851939},
		{maxUnit, -9999, -1125787316851940},
		{1 << 40, maxPart, 100 << 40},
		{1 << 40, -maxPart, -100 << 40},
		{maxUnit / 100, maxPart, maxUnit / 100 * 100},
		{maxUnit / 100, -maxPart, -(maxUnit / 100 * 100)},
	} {
		if n, ok := Part(c[0], c[1]); n != c[2] || !ok {
			t.Errorf("Part(%d, %d): %d, %t instead of %d", c[0], c[1], n, ok, c[2])
		}
	}
}

func TestPartRefused(t *testing.T) {
	for _, c := range [][2]int64{
		{-1, 5},
		{-1, 0},
		{math.MinInt64, 5},
		{maxUnit + 1, 5},
		{maxUnit + 1, 0},
		{math.MaxInt64, 5},
		{5, maxPart + 1},
		{5, -maxPart - 1},
		{0, maxPart + 1},
		{0, -maxPart - 1},
		{5, math.MaxInt64},
		{5, math.MinInt64},
		{maxUnit, 10001},
		{maxUnit, -10001},
		{maxUnit, maxPart},
		{maxUnit, -maxPart},
		{maxUnit/100 + 1, maxPart},
		{maxUnit/100 + 1, -maxPart},
	} {
		if n, ok := Part(c[0], c[1]); n != 0 || ok {
			t.Errorf("Part(%d, %d): %d, %t", c[0], c[1], n, ok)
		}
	}
}

func TestPartIsExact(t *testing.T) {
	bases := []int64{0, 1, 2, 9999, 10000, 10001, 19999, 1<<40 - 1, 1 << 40, 1<<40 + 1, maxUnit / 100, maxUnit - 1, maxUnit}
	parts := []int64{0, 1, 2, 3333, 4999, 5000, 9999, 10000, 10001, 12345, 999999, maxPart}
	for _, base := range bases {
		for _, p := range parts {
			for _, part := range []int64{p, -p} {
				// big's Div rounds down for a positive divisor.
				exact := new(big.Int).Mul(big.NewInt(base), big.NewInt(part))
				exact.Div(exact, big.NewInt(10000))
				want, fits := int64(0), exact.IsInt64() && Fits(exact.Int64())
				if fits {
					want = exact.Int64()
				}
				if n, ok := Part(base, part); n != want || ok != fits {
					t.Errorf("Part(%d, %d): %d, %t instead of %d, %t", base, part, n, ok, want, fits)
				}
			}
		}
	}
}

func TestHalf(t *testing.T) {
	for _, c := range [][2]int64{
		{0, 0}, {1, 0}, {2, 1}, {5, 2}, {6, 3},
		{-1, -1}, {-2, -1}, {-5, -3}, {-6, -3},
		{maxUnit, maxUnit / 2}, {-maxUnit, -maxUnit / 2}, {-maxUnit - 1, -maxUnit/2 - 1},
		{math.MaxInt64, 1<<62 - 1}, {math.MinInt64, -1 << 62}, {math.MinInt64 + 1, -1 << 62},
	} {
		if n := Half(c[0]); n != c[1] {
			t.Errorf("Half(%d): %d instead of %d", c[0], n, c[1])
		}
	}
}

func TestClamp(t *testing.T) {
	for _, c := range [][4]int64{
		{5, 0, 9, 5},
		{5, 0, 3, 3},
		{5, 7, 9, 7},
		{5, 5, 5, 5},
		{0, 0, 9, 0},
		{9, 0, 9, 9},
		{-5, -9, -7, -7},
		{-5, -3, 0, -3},
		{5, 7, 6, 7},
		{8, 7, 6, 7},
		{5, 7, 3, 7},
		{6, 7, 6, 7},
		{math.MaxInt64, math.MinInt64, 0, 0},
		{math.MinInt64, 0, math.MaxInt64, 0},
		{0, math.MaxInt64, math.MinInt64, math.MaxInt64},
	} {
		if n := Clamp(c[0], c[1], c[2]); n != c[3] {
			t.Errorf("Clamp(%d, %d, %d): %d instead of %d", c[0], c[1], c[2], n, c[3])
		}
	}
}
