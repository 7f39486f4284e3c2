package style

import (
	"bytes"
	"math"
	"slices"
	"strconv"
	"testing"

	"decoupage/api"
	"decoupage/scroll"
)

func units(n int64) api.Len { return api.Len{Kind: api.Units, N: n} }
func part(n int64) api.Len  { return api.Len{Kind: api.Part, N: n} }

// least is the valid style that has nothing but what a valid style must have.
func least() api.Style {
	var s api.Style
	for side := range s.Pad {
		s.Pad[side] = units(0)
	}
	return s
}

// full is a valid style within the limits in which every field is set, with numbers that all differ.
func full() api.Style {
	return api.Style{
		Shown:    true,
		Position: api.Fixed,
		Off:      [4]api.Len{units(-1), part(2), units(3), part(-4)},
		Width:    units(5), Height: part(6), MinW: part(7), MaxW: units(8), MinH: units(9), MaxH: part(10),
		Margin: [4]api.Len{part(-11), units(12), part(13), units(-14)},
		Pad:    [4]api.Len{units(15), part(16), units(17), part(18)},
		Border: [4]int64{19, 20, 21, 22},
		RTL:    true, HasZ: true, Z: -23,
		Clip: true,
		Back: 24, Line: 25,
	}
}

// lengthField is one of the eighteen lengths of a style, in the order of the chapter.
type lengthField struct {
	name string
	at   func(*api.Style) *api.Len
	// signed is for what may be negative, optional for what may be auto.
	signed, optional bool
}

func lengthFields() []lengthField {
	var l []lengthField
	sides := func(name string, signed, optional bool, of func(*api.Style) *[4]api.Len) {
		for side := range 4 {
			at := func(s *api.Style) *api.Len { return &of(s)[side] }
			l = append(l, lengthField{name + " " + strconv.Itoa(side), at, signed, optional})
		}
	}
	size := func(name string, at func(*api.Style) *api.Len) {
		l = append(l, lengthField{name, at, false, true})
	}
	sides("Off", true, true, func(s *api.Style) *[4]api.Len { return &s.Off })
	size("Width", func(s *api.Style) *api.Len { return &s.Width })
	size("Height", func(s *api.Style) *api.Len { return &s.Height })
	size("MinW", func(s *api.Style) *api.Len { return &s.MinW })
	size("MaxW", func(s *api.Style) *api.Len { return &s.MaxW })
	size("MinH", func(s *api.Style) *api.Len { return &s.MinH })
	size("MaxH", func(s *api.Style) *api.Len { return &s.MaxH })
	sides("Margin", true, true, func(s *api.Style) *[4]api.Len { return &s.Margin })
	sides("Pad", false, false, func(s *api.Style) *[4]api.Len { return &s.Pad })
	return l
}

// numberField is one of the numbers of a style that may not be negative, with its limit.
type numberField struct {
	name  string
	at    func(*api.Style) *int64
	limit int64
}

func numberFields() []numberField {
	var l []numberField
	for side := range 4 {
		at := func(s *api.Style) *int64 { return &s.Border[side] }
		l = append(l, numberField{"Border " + strconv.Itoa(side), at, 1 << 40})
	}
	l = append(l, numberField{"Back", func(s *api.Style) *int64 { return &s.Back }, 1 << 24})
	return append(l, numberField{"Line", func(s *api.Style) *int64 { return &s.Line }, 1 << 24})
}

// named is a style with a name that tells what is special about it.
type named struct {
	name string
	s    api.Style
}

// variants has each base with one change each.
type variants []named

func (v *variants) add(name string, change func(*api.Style)) {
	for k, s := range []api.Style{least(), full()} {
		change(&s)
		*v = append(*v, named{name + " of " + []string{"least", "full"}[k], s})
	}
}

func (v *variants) addLen(f lengthField, l api.Len) {
	name := f.name + ": " + strconv.Itoa(l.Kind) + " " + strconv.FormatInt(l.N, 10)
	v.add(name, func(s *api.Style) { *f.at(s) = l })
}

func (v *variants) addNumber(f numberField, n int64) {
	v.add(f.name+": "+strconv.FormatInt(n, 10), func(s *api.Style) { *f.at(s) = n })
}

// strange are kinds and positions that do not exist; some of them look like one that does if they are cut to a byte.
var strange = []int{-1, -2, 4, 5, 127, 128, 255, 256, 257, 258, 1 << 32, 1<<32 + 1, -255, -256, math.MaxInt, math.MinInt}

// lengthsOfAllSizes has the limits of both kinds, what is beside them, and the ends of the range.
var lengthsOfAllSizes = []int64{
	0, 1, 2, 255, 256, 1000000 - 1, 1000000, 1000000 + 1, 1<<32 + 1,
	1<<40 - 1, 1 << 40, 1<<40 + 1, 1<<53 + 1, math.MaxInt64 - 1, math.MaxInt64,
}

// validStyles breaks no condition, whether within the limits or not.
func validStyles() []named {
	v := variants{{"least", least()}, {"full", full()}}
	for _, f := range lengthFields() {
		if f.optional {
			v.addLen(f, api.Len{})
		}
		for _, n := range lengthsOfAllSizes {
			v.addLen(f, units(n))
			v.addLen(f, part(n))
			if f.signed {
				v.addLen(f, units(-n))
				v.addLen(f, part(-n))
			}
		}
		if f.signed {
			v.addLen(f, units(math.MinInt64))
			v.addLen(f, part(math.MinInt64))
		}
	}
	for _, f := range numberFields() {
		for _, n := range []int64{0, 1, f.limit - 1, f.limit, f.limit + 1, math.MaxInt64} {
			v.addNumber(f, n)
		}
	}
	for position := range 4 {
		v.add("Position "+strconv.Itoa(position), func(s *api.Style) { s.Position = position })
	}
	for _, z := range []int64{0, 1, -1, 1 << 30, -1 << 30, 1<<30 + 1, -1<<30 - 1, math.MaxInt64, math.MinInt64} {
		v.add("Z "+strconv.FormatInt(z, 10), func(s *api.Style) { s.HasZ, s.Z = true, z })
	}
	v.add("no Z", func(s *api.Style) { s.HasZ, s.Z = false, 0 })
	for bits := range 8 {
		v.add("flags "+strconv.Itoa(bits), func(s *api.Style) { s.Shown, s.RTL, s.Clip = bits&1 != 0, bits&2 != 0, bits&4 != 0 })
	}
	return v
}

// invalidStyles breaks one condition each.
func invalidStyles() []named {
	var v variants
	for _, f := range lengthFields() {
		for _, n := range []int64{1, -1, 1 << 32, 1 << 40, math.MaxInt64, math.MinInt64} {
			v.addLen(f, api.Len{Kind: api.Auto, N: n})
		}
		for _, kind := range append([]int{3}, strange...) {
			v.addLen(f, api.Len{Kind: kind})
			v.addLen(f, api.Len{Kind: kind, N: 1})
		}
		if !f.optional {
			v.addLen(f, api.Len{})
		}
		for _, n := range []int64{-1, -2, -256, -1 << 32, -1 << 40, math.MinInt64} {
			if !f.signed {
				v.addLen(f, units(n))
				v.addLen(f, part(n))
			}
		}
	}
	for _, f := range numberFields() {
		for _, n := range []int64{-1, -256, -1 << 32, math.MinInt64} {
			v.addNumber(f, n)
		}
	}
	for _, position := range strange {
		v.add("Position "+strconv.Itoa(position), func(s *api.Style) { s.Position = position })
	}
	for _, z := range []int64{1, -1, 1 << 30, 1 << 32, math.MaxInt64, math.MinInt64} {
		v.add("Z without HasZ "+strconv.FormatInt(z, 10), func(s *api.Style) { s.HasZ, s.Z = false, z })
	}
	return v
}

// encodedByHand is the encoding of P6.1, word by word, for any style whose kinds are bytes and whose position is at most 3.
func encodedByHand(s api.Style) []byte {
	b := []byte{byte(2 * s.Position)}
	for n, set := range []bool{s.Shown, s.RTL, s.HasZ, s.Clip} {
		if set {
			b[0] += []byte{1, 8, 16, 32}[n]
		}
	}
	for _, l := range []api.Len{
		s.Off[api.Top], s.Off[api.Right], s.Off[api.Bottom], s.Off[api.Left],
		s.Width, s.Height, s.MinW, s.MaxW, s.MinH, s.MaxH,
		s.Margin[api.Top], s.Margin[api.Right], s.Margin[api.Bottom], s.Margin[api.Left],
		s.Pad[api.Top], s.Pad[api.Right], s.Pad[api.Bottom], s.Pad[api.Left],
	} {
		b = append(b, byte(l.Kind))
		if l.Kind != api.Auto {
			b = append(b, eight(l.N)...)
		}
	}
	for _, n := range s.Border {
		b = append(b, eight(n)...)
	}
	if s.HasZ {
		b = append(b, eight(s.Z)...)
	}
	return append(append(b, eight(s.Back)...), eight(s.Line)...)
}

func eight(n int64) []byte {
	var b []byte
	for k := 7; k >= 0; k-- {
		b = append(b, byte(uint64(n)>>(8*k)))
	}
	return b
}

func put(s api.Style) []byte {
	var o scroll.Out
	Put(&o, s)
	return o.Bytes()
}

// checkGets decodes b, which is the encoding of want, alone and with bytes behind it that must stay.
func checkGets(t *testing.T, name string, b []byte, want api.Style) {
	t.Helper()
	for _, behind := range [][]byte{nil, {0}, {255}, {1, 2, 3, 4, 5, 6, 7, 8, 9}, b} {
		i := scroll.NewIn(slices.Concat(b, behind))
		if s := Get(i); s != want {
			t.Fatal(name, "Get:", s, "want", want)
		}
		if i.Bad() || i.Left() != len(behind) || i.Done() != (len(behind) == 0) {
			t.Fatal(name, "bad:", i.Bad(), "left:", i.Left(), "want", len(behind))
		}
		for k, v := range behind {
			if got := i.Byte(); got != v {
				t.Fatal(name, "behind, at", k, "got", got, "want", v)
			}
		}
	}
}

// checkFails decodes b, which does not begin with an encoding.
func checkFails(t *testing.T, name string, b []byte) {
	t.Helper()
	i := scroll.NewIn(b)
	for range 2 {
		if s := Get(i); s != (api.Style{}) {
			t.Fatal(name, "Get:", s, "of", b)
		}
		if !i.Bad() || i.Done() || i.Left() != 0 {
			t.Fatal(name, "bad:", i.Bad(), "done:", i.Done(), "left:", i.Left(), "of", b)
		}
	}
	if a, c := i.Byte(), i.Eight(); a != 0 || c != 0 {
		t.Fatal(name, "after a failed Get:", a, c)
	}
}

func TestExample(t *testing.T) {
	var s api.Style
	if Formed(s) {
		t.Error("the zero style is valid")
	}
	if b := put(s); len(b) != 0 {
		t.Error("Put of the zero style:", b)
	}
	for side := range s.Pad {
		if Formed(s) {
			t.Error("valid with", side, "elements of Pad that are not auto")
		}
		s.Pad[side] = units(0)
	}
	if !Formed(s) {
		t.Error("not valid although no element of Pad is auto")
	}
}

func TestFormed(t *testing.T) {
	for _, v := range validStyles() {
		if !Formed(v.s) {
			t.Error("not valid:", v.name)
		}
	}
	for _, v := range invalidStyles() {
		if Formed(v.s) {
			t.Error("valid:", v.name)
		}
	}
}

// TestFormedOfSeveral breaks every two of the conditions at once, so that no mistake makes up for another one.
func TestFormedOfSeveral(t *testing.T) {
	breaks := []func(*api.Style){
		func(s *api.Style) { s.Position = 4 },
		func(s *api.Style) { s.Off[1].Kind = 3 },
		func(s *api.Style) { s.MinW = units(-1) },
		func(s *api.Style) { s.Pad[3] = api.Len{} },
		func(s *api.Style) { s.Pad[0] = part(-1) },
		func(s *api.Style) { s.Border[2] = -1 },
		func(s *api.Style) { s.Back = -1 },
		func(s *api.Style) { s.Line = -1 },
		func(s *api.Style) { s.HasZ, s.Z = false, 1 },
	}
	for a := range breaks {
		for b := range breaks {
			s := full()
			breaks[a](&s)
			breaks[b](&s)
			if Formed(s) {
				t.Error("valid with breaks", a, b)
			}
		}
	}
}

func TestWithinLengths(t *testing.T) {
	for _, f := range lengthFields() {
		for kind, limit := range map[int]int64{api.Units: 1 << 40, api.Part: 1000000} {
			for n, want := range map[int64]bool{
				0: true, 1: true, -1: true,
				limit - 1: true, limit: true, limit + 1: false,
				-limit + 1: true, -limit: true, -limit - 1: false,
				limit + 1<<32: false, math.MaxInt64: false, math.MinInt64: false,
			} {
				var v variants
				v.addLen(f, api.Len{Kind: kind, N: n})
				checkWithin(t, v, want)
			}
		}
	}
}

func checkWithin(t *testing.T, v variants, want bool) {
	t.Helper()
	for _, c := range v {
		if got := Within(c.s); got != want {
			t.Error(c.name, "Within:", got)
		}
	}
}

func TestWithinNumbers(t *testing.T) {
	for _, f := range numberFields() {
		for n, want := range map[int64]bool{
			0: true, 1: true, f.limit - 1: true, f.limit: true, f.limit + 1: false, f.limit + 1<<32: false, math.MaxInt64: false,
		} {
			var v variants
			v.addNumber(f, n)
			checkWithin(t, v, want)
		}
	}
	const limit = 1 << 30
	for z, want := range map[int64]bool{
		0: true, limit - 1: true, limit: true, limit + 1: false, 1 << 32: false, math.MaxInt64: false,
		-limit + 1: true, -limit: true, -limit - 1: false, -1 << 32: false, math.MinInt64: false,
	} {
		for _, has := range []bool{true, false} {
			var v variants
			v.add("Z "+strconv.FormatInt(z, 10), func(s *api.Style) { s.HasZ, s.Z = has, z })
			checkWithin(t, v, want)
		}
	}
}

// TestWithinEveryLimit has each number at its limit at the same time.
func TestWithinEveryLimit(t *testing.T) {
	s := least()
	for _, f := range lengthFields() {
		*f.at(&s) = units(api.MaxLen)
	}
	for _, f := range numberFields() {
		*f.at(&s) = f.limit
	}
	s.HasZ, s.Z = true, -api.MaxZ
	if !Formed(s) || !Within(s) {
		t.Error("valid:", Formed(s), "within:", Within(s))
	}
}

// TestWithinOfInvalid checks that the limits are asked for alone: a style that is not valid may be within them or not.
func TestWithinOfInvalid(t *testing.T) {
	if !Within(api.Style{}) {
		t.Error("the zero style is not within the limits")
	}
	for _, f := range lengthFields() {
		for _, kind := range append([]int{api.Auto, 3}, strange...) {
			for _, n := range []int64{1, -1, math.MaxInt64, math.MinInt64} {
				var v variants
				v.addLen(f, api.Len{Kind: kind, N: n})
				checkWithin(t, v, true)
			}
		}
	}
	for _, f := range numberFields() {
		for _, n := range []int64{-1, -f.limit, -f.limit - 1, math.MinInt64} {
			var v variants
			v.addNumber(f, n)
			checkWithin(t, v, true)
		}
	}
	for _, position := range strange {
		var v variants
		v.add("Position", func(s *api.Style) { s.Position = position })
		checkWithin(t, v, true)
		v = nil
		v.add("Position and Back", func(s *api.Style) { s.Position, s.Back = position, api.MaxColor+1 })
		checkWithin(t, v, false)
	}
}

// TestPutByHand has each byte of two encodings written out.
func TestPutByHand(t *testing.T) {
	pad := []byte{1, 0, 0, 0, 0, 0, 0, 0, 0}
	want := slices.Concat(make([]byte, 1+14), pad, pad, pad, pad, make([]byte, 4*8+2*8))
	if b := put(least()); !bytes.Equal(b, want) {
		t.Error("least:", b, "want", want)
	}
	want = []byte{
		1 + 6 + 8 + 16 + 32,
		1, 255, 255, 255, 255, 255, 255, 255, 255, 2, 0, 0, 0, 0, 0, 0, 0, 2, // Off
		1, 0, 0, 0, 0, 0, 0, 0, 3, 2, 255, 255, 255, 255, 255, 255, 255, 252,
		1, 0, 0, 0, 0, 0, 0, 0, 5, 2, 0, 0, 0, 0, 0, 0, 0, 6, // Width, Height
		2, 0, 0, 0, 0, 0, 0, 0, 7, 1, 0, 0, 0, 0, 0, 0, 0, 8, // MinW, MaxW
		1, 0, 0, 0, 0, 0, 0, 0, 9, 2, 0, 0, 0, 0, 0, 0, 0, 10, // MinH, MaxH
		2, 255, 255, 255, 255, 255, 255, 255, 245, 1, 0, 0, 0, 0, 0, 0, 0, 12, // Margin
		2, 0, 0, 0, 0, 0, 0, 0, 13, 1, 255, 255, 255, 255, 255, 255, 255, 242,
		1, 0, 0, 0, 0, 0, 0, 0, 15, 2, 0, 0, 0, 0, 0, 0, 0, 16, // Pad
		1, 0, 0, 0, 0, 0, 0, 0, 17, 2, 0, 0, 0, 0, 0, 0, 0, 18,
		0, 0, 0, 0, 0, 0, 0, 19, 0, 0, 0, 0, 0, 0, 0, 20, // Border
		0, 0, 0, 0, 0, 0, 0, 21, 0, 0, 0, 0, 0, 0, 0, 22,
		255, 255, 255, 255, 255, 255, 255, 233, // Z
		0, 0, 0, 0, 0, 0, 0, 24, 0, 0, 0, 0, 0, 0, 0, 25, // Back, Line
	}
	if b := put(full()); !bytes.Equal(b, want) {
		t.Error("full:", b, "want", want)
	}
	checkGets(t, "by hand", want, full())
}

// TestFirstByte has every sum of what the first byte may tell, and every byte with a bit that has no meaning.
func TestFirstByte(t *testing.T) {
	for first := range 256 {
		s := least()
		s.Shown = first&1 != 0
		s.Position = first / 2 % 4
		s.RTL = first&8 != 0
		s.HasZ = first&16 != 0
		s.Clip = first&32 != 0
		b := put(s)
		if len(b) == 0 || int(b[0]) != first%64 {
			t.Fatal("first byte of", s, "want", first%64, "got", b)
		}
		b[0] = byte(first)
		if first < 64 {
			checkGets(t, "first byte "+strconv.Itoa(first), b, s)
			continue
		}
		checkFails(t, "first byte "+strconv.Itoa(first), b)
	}
	for want, set := range map[byte]func(*api.Style){
		1:  func(s *api.Style) { s.Shown = true },
		2:  func(s *api.Style) { s.Position = api.Relative },
		4:  func(s *api.Style) { s.Position = api.Absolute },
		6:  func(s *api.Style) { s.Position = api.Fixed },
		8:  func(s *api.Style) { s.RTL = true },
		16: func(s *api.Style) { s.HasZ = true },
		32: func(s *api.Style) { s.Clip = true },
	} {
		s := least()
		set(&s)
		if b := put(s); len(b) == 0 || b[0] != want {
			t.Error("first byte", want, "alone:", b)
		}
	}
}

// TestZ checks that Z takes eight bytes if HasZ is true, also where Z is 0, and none otherwise.
func TestZ(t *testing.T) {
	s := least()
	without := put(s)
	for _, z := range []int64{0, 1, -1, api.MaxZ, -api.MaxZ, api.MaxZ + 1, math.MaxInt64, math.MinInt64} {
		s.HasZ, s.Z = true, z
		at := len(without) - 16
		want := slices.Concat(without[:at], eight(z), without[at:])
		want[0] |= 16
		if b := put(s); !bytes.Equal(b, want) {
			t.Error("Z", z, "got", b, "want", want)
		}
		checkGets(t, "Z", want, s)
		// Without the flag, the eight bytes are those of Back.
		want[0] -= 16
		if z < 0 {
			checkFails(t, "without HasZ", want)
			continue
		}
		back := least()
		back.Back = z
		checkGets(t, "without HasZ", want[:len(want)-8], back)
	}
}

func TestPutValid(t *testing.T) {
	for _, v := range validStyles() {
		want := encodedByHand(v.s)
		if b := put(v.s); !bytes.Equal(b, want) {
			t.Error(v.name, "got", b, "want", want)
		}
	}
}

func TestPutAppends(t *testing.T) {
	var o scroll.Out
	var want []byte
	for n, s := range []api.Style{full(), least(), {}, full(), least()} {
		o.Byte(byte(n))
		want = append(want, byte(n))
		Put(&o, s)
		if Formed(s) {
			want = append(want, encodedByHand(s)...)
		}
		if b := o.Bytes(); !bytes.Equal(b, want) {
			t.Fatal("after", n+1, "styles:", b, "want", want)
		}
	}
}

func TestPutInvalid(t *testing.T) {
	for _, v := range invalidStyles() {
		var o scroll.Out
		Put(&o, v.s)
		if b := o.Bytes(); len(b) != 0 {
			t.Error(v.name, "got", b)
		}
		o.Byte(7)
		Put(&o, v.s)
		if b := o.Bytes(); !bytes.Equal(b, []byte{7}) {
			t.Error(v.name, "after a byte:", b)
		}
	}
}

func TestPutNil(t *testing.T) {
	var o *scroll.Out
	for _, s := range []api.Style{{}, least(), full()} {
		Put(o, s)
		if b := o.Bytes(); len(b) != 0 {
			t.Error("a nil Out has", b)
		}
	}
}

// TestGetValid decodes the encodings of all valid styles, within the limits or not, and thereby what Put has written.
func TestGetValid(t *testing.T) {
	beyond := 0
	for _, v := range validStyles() {
		checkGets(t, v.name, encodedByHand(v.s), v.s)
		checkGets(t, v.name, put(v.s), v.s)
		if !Within(v.s) {
			beyond++
		}
	}
	if beyond == 0 {
		t.Error("no style is beyond the limits")
	}
}

// TestGetInvalid encodes what is not a valid style, as far as the bytes can tell it.
func TestGetInvalid(t *testing.T) {
	tried := 0
	for _, v := range invalidStyles() {
		if !toldByBytes(v.s) {
			continue
		}
		tried++
		b := encodedByHand(v.s)
		checkFails(t, v.name, b)
		checkFails(t, v.name, slices.Concat(b, make([]byte, 20)))
	}
	if tried < 100 {
		t.Error("only", tried, "styles")
	}
}

// toldByBytes reports whether s has no field whose value the encoding has no place for.
func toldByBytes(s api.Style) bool {
	for _, f := range lengthFields() {
		l := *f.at(&s)
		if l.Kind < 0 || l.Kind > 255 || l.Kind == api.Auto && l.N != 0 {
			return false
		}
	}
	return 0 <= s.Position && s.Position <= 3 && (s.HasZ || s.Z == 0)
}

// TestGetKinds has every byte as the kind of each length, followed by eight bytes and by none.
func TestGetKinds(t *testing.T) {
	for _, f := range lengthFields() {
		for kind := range 256 {
			s := least()
			*f.at(&s) = api.Len{Kind: kind}
			name := f.name + " of kind " + strconv.Itoa(kind)
			if kind == api.Units || kind == api.Part || kind == api.Auto && f.optional {
				checkGets(t, name, encodedByHand(s), s)
				continue
			}
			b := encodedByHand(s)
			checkFails(t, name, b)
			checkFails(t, name, slices.Concat(b, make([]byte, 8)))
		}
	}
}

func TestGetTruncated(t *testing.T) {
	for _, v := range []named{{"least", least()}, {"full", full()}} {
		for _, z := range []int64{0, 5} {
			s := v.s
			s.HasZ, s.Z = true, z
			b := encodedByHand(s)
			for size := range b {
				checkFails(t, v.name+" up to "+strconv.Itoa(size), b[:size])
			}
			checkGets(t, v.name, b, s)
		}
	}
}

// TestGetEveryByte changes each byte of an encoding to each other value.
// What is decoded then is the style whose encoding the bytes begin with, or there is none.
func TestGetEveryByte(t *testing.T) {
	for _, v := range []named{{"least", least()}, {"full", full()}} {
		whole := append(encodedByHand(v.s), 1, 2, 3)
		for at := range whole {
			for value := range 256 {
				b := slices.Clone(whole)
				b[at] = byte(value)
				want, size, ok := decodedByHand(b)
				if !ok {
					checkFails(t, v.name, b)
					continue
				}
				i := scroll.NewIn(b)
				if s := Get(i); s != want || i.Bad() || i.Left() != len(b)-size {
					t.Fatal(v.name, at, value, "Get:", s, "want", want, "left:", i.Left(), "of", len(b), "want", len(b)-size)
				}
				if !bytes.Equal(put(want), b[:size]) {
					t.Fatal(v.name, at, value, "Put does not write what Get has read")
				}
			}
		}
	}
}

// decodedByHand tries the one style that b may begin with: it fills in what the bytes tell and encodes that again.
func decodedByHand(b []byte) (api.Style, int, bool) {
	at := 0
	next := func(size int) int64 {
		var n uint64
		for ; size > 0 && at < len(b); size-- {
			n = n*256 + uint64(b[at])
			at++
		}
		return int64(n)
	}
	first := next(1)
	s := api.Style{Shown: first%2 == 1, Position: int(first / 2 % 4), RTL: first/8%2 == 1, HasZ: first/16%2 == 1, Clip: first/32%2 == 1}
	fields := lengthFields()
	for _, f := range fields {
		l := f.at(&s)
		l.Kind = int(next(1))
		if l.Kind != 0 {
			l.N = next(8)
		}
		if l.Kind > 2 || l.Kind == 0 && !f.optional || l.N < 0 && !f.signed {
			return api.Style{}, 0, false
		}
	}
	for side := range s.Border {
		s.Border[side] = next(8)
	}
	if s.HasZ {
		s.Z = next(8)
	}
	s.Back, s.Line = next(8), next(8)
	ok := slices.Min(s.Border[:]) >= 0 && s.Back >= 0 && s.Line >= 0 && bytes.HasPrefix(b, encodedByHand(s))
	if !ok {
		return api.Style{}, 0, false
	}
	return s, at, true
}

func TestGetBad(t *testing.T) {
	failed := scroll.NewIn(encodedByHand(full()))
	failed.Fail()
	short := scroll.NewIn([]byte{1, 2, 3})
	short.Four()
	for _, i := range []*scroll.In{failed, short} {
		for range 2 {
			if s := Get(i); s != (api.Style{}) || !i.Bad() || i.Done() || i.Left() != 0 {
				t.Error("of a bad In:", s, i.Bad(), i.Done(), i.Left())
			}
		}
	}
	checkFails(t, "no bytes", nil)
	checkFails(t, "no bytes", []byte{})
}

func TestGetNil(t *testing.T) {
	var i *scroll.In
	for range 2 {
		if s := Get(i); s != (api.Style{}) || i.Bad() || i.Done() || i.Left() != 0 {
			t.Error("of a nil In:", s, i.Bad(), i.Done(), i.Left())
		}
	}
}

// TestGetInSequence decodes several styles from one In, with other bytes between, until one is not valid.
func TestGetInSequence(t *testing.T) {
	broken := least()
	broken.Pad[2] = api.Len{}
	b := []byte{9}
	for _, s := range []api.Style{full(), least(), full(), broken, full()} {
		b = append(append(b, encodedByHand(s)...), 8)
	}
	i := scroll.NewIn(b)
	if v := i.Byte(); v != 9 {
		t.Fatal(v)
	}
	for n, want := range []api.Style{full(), least(), full()} {
		if s := Get(i); s != want || i.Bad() {
			t.Fatal("number", n, s, i.Bad())
		}
		if v := i.Byte(); v != 8 {
			t.Fatal("number", n, "behind:", v)
		}
	}
	for range 2 {
		if s := Get(i); s != (api.Style{}) || !i.Bad() || i.Left() != 0 {
			t.Fatal("broken:", s, i.Bad(), i.Left())
		}
	}
}

// TestArgumentsStay checks that the bytes an In was made of are left as they are.
func TestArgumentsStay(t *testing.T) {
	for _, size := range []int{0, 50, len(encodedByHand(full()))} {
		whole := append(encodedByHand(full()), 1, 2, 3)
		before := slices.Clone(whole)
		Get(scroll.NewIn(whole[:size]))
		if !bytes.Equal(whole, before) {
			t.Error("Get has changed bytes:", whole)
		}
	}
}

// draw is a fixed rule that gives numbers without a pattern.
type draw uint64

func (d *draw) next() uint64 {
	*d = *d*6364136223846793005 + 1442695040888963407
	return uint64(*d) >> 16
}

func (d *draw) below(n int) int { return int(d.next() % uint64(n)) }

// number has all magnitudes, and is seldom negative.
func (d *draw) number() int64 {
	n := int64((d.next()<<32 ^ d.next()) >> 1 >> d.below(63))
	if d.below(12) == 0 {
		return -n
	}
	return n
}

func (d *draw) style() api.Style {
	s := api.Style{Shown: d.below(2) == 0, Position: d.below(4), RTL: d.below(2) == 0, HasZ: d.below(2) == 0, Clip: d.below(2) == 0}
	for _, f := range lengthFields() {
		if kind := d.below(3); kind != api.Auto || !f.optional {
			*f.at(&s) = api.Len{Kind: max(kind, api.Units), N: d.number()}
		}
		if d.below(200) == 0 {
			*f.at(&s) = api.Len{Kind: d.below(5), N: d.number()}
		}
	}
	for _, f := range numberFields() {
		*f.at(&s) = max(d.number(), -int64(d.below(20)/19))
	}
	if s.HasZ {
		s.Z = d.number()
	}
	return s
}

// formedByHand is the definition of a valid style over the table of the fields.
func formedByHand(s api.Style) bool {
	for _, f := range lengthFields() {
		l := *f.at(&s)
		if l.Kind < 0 || l.Kind > 2 || l.Kind == 0 && (l.N != 0 || !f.optional) || l.N < 0 && !f.signed {
			return false
		}
	}
	for _, f := range numberFields() {
		if *f.at(&s) < 0 {
			return false
		}
	}
	return s.Position >= 0 && s.Position <= 3 && (s.HasZ || s.Z == 0)
}

// TestReadBack puts styles without a pattern into one Out and gets the valid ones back.
func TestReadBack(t *testing.T) {
	var o scroll.Out
	var valid []api.Style
	d := draw(6)
	const tries = 5000
	for range tries {
		s := d.style()
		if Formed(s) != formedByHand(s) {
			t.Fatal("Formed:", Formed(s), "of", s)
		}
		Put(&o, s)
		if formedByHand(s) {
			valid = append(valid, s)
		}
	}
	if len(valid) < tries/20 || len(valid) > tries*19/20 {
		t.Error("only one kind of styles:", len(valid), "valid ones of", tries)
	}
	i := scroll.NewIn(o.Bytes())
	for n, want := range valid {
		if s := Get(i); s != want || i.Bad() {
			t.Fatal("number", n, "Get:", s, "want", want)
		}
	}
	if !i.Done() {
		t.Error("bytes are left:", i.Left())
	}
}
