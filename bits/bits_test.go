package bits

import (
	"bytes"
	"encoding/binary"
	"math"
	"math/big"
	"slices"
	"testing"
)

// kinds holds what the document says of each kind, written out by hand.
var kinds = []struct {
	kind     int
	width    uint
	signed   bool
	least    int
	greatest uint64
}{
	{1, 8, true, -128, 127},
	{2, 16, true, -32768, 32767},
	{3, 32, true, -2147483648, 2147483647},
	{4, 64, true, -9223372036854775808, 9223372036854775807},
	{5, 8, false, 0, 255},
	{6, 16, false, 0, 65535},
	{7, 32, false, 0, 4294967295},
	{8, 64, false, 0, 18446744073709551615},
}

var noKinds = []int{math.MinInt, math.MinInt32, -8, -1, 0, 9, 10, 16, 256 + 1, 1<<32 + 1, math.MaxInt}

// words: the powers of two, their neighbours and opposites, and some numbers without a pattern.
func words() []uint64 {
	var out []uint64
	for i := range 64 {
		p := uint64(1) << uint(i)
		out = append(out, p-1, p, p+1, ^p, -p, ^p+2)
	}
	seed := uint64(0x9e3779b97f4a7c15)
	for range 40 {
		seed ^= seed << 13
		seed ^= seed >> 7
		seed ^= seed << 17
		out = append(out, seed)
	}
	return out
}

// counts: every count of bits around a word's width, and those at both ends of int.
func counts() []int {
	var out []int
	for n := -131; n <= 131; n++ {
		out = append(out, n)
	}
	for d := range 70 {
		out = append(out, math.MinInt+d, math.MaxInt-d)
	}
	return append(out, -9999, 9999, math.MinInt32, math.MaxInt32, 1<<32, -1<<32, 1<<32+1, -1<<32-1)
}

func bigPower(n int) *big.Int {
	return new(big.Int).Lsh(big.NewInt(1), uint(n))
}

func bigWord(u uint64) *big.Int {
	return new(big.Int).SetUint64(u)
}

// low64: a number modulo 2^64, as bits.
func low64(x *big.Int) uint64 {
	return new(big.Int).Mod(x, bigPower(64)).Uint64()
}

func TestKindsAreNumbered(t *testing.T) {
	got := []int{I8, I16, I32, I64, U8, U16, U32, U64}
	if !slices.Equal(got, []int{1, 2, 3, 4, 5, 6, 7, 8}) {
		t.Errorf("the kinds are %v", got)
	}
}

func TestWrap(t *testing.T) {
	for _, k := range kinds {
		modulus := bigPower(int(k.width))
		for _, x := range words() {
			want := new(big.Int).Mod(bigWord(x), modulus)
			if k.signed && want.Bit(int(k.width)-1) == 1 {
				want.Sub(want, modulus)
			}
			if got, ok := Wrap(k.kind, x); !ok || got != low64(want) {
				t.Errorf("Wrap(%d, %#x) = %#x, %v, not %v", k.kind, x, got, ok, want)
			}
		}
	}
}

func TestFits(t *testing.T) {
	for _, k := range kinds {
		least, greatest := big.NewInt(int64(k.least)), bigWord(k.greatest)
		for _, u := range words() {
			x := int(u)
			bx := big.NewInt(int64(x))
			want := bx.Cmp(least) >= 0 && bx.Cmp(greatest) <= 0
			if in, ok := Fits(k.kind, x); !ok || in != want {
				t.Errorf("Fits(%d, %d) = %v, %v, not %v", k.kind, x, in, ok, want)
			}
		}
	}
}

func TestEnds(t *testing.T) {
	for _, k := range kinds {
		if least, greatest, ok := Ends(k.kind); !ok || least != k.least || greatest != k.greatest {
			t.Errorf("Ends(%d) = %d, %d, %v", k.kind, least, greatest, ok)
		}
	}
}

func TestNoSuchKind(t *testing.T) {
	for _, kind := range noKinds {
		for _, x := range words() {
			if w, ok := Wrap(kind, x); ok || w != 0 {
				t.Errorf("Wrap(%d, %#x) = %#x, %v", kind, x, w, ok)
			}
			if in, ok := Fits(kind, int(x)); ok || in {
				t.Errorf("Fits(%d, %d) = %v, %v", kind, int(x), in, ok)
			}
		}
		if least, greatest, ok := Ends(kind); ok || least != 0 || greatest != 0 {
			t.Errorf("Ends(%d) = %d, %d, %v", kind, least, greatest, ok)
		}
	}
}

func TestKindExamples(t *testing.T) {
	if w, ok := Wrap(I8, 200); w != 1<<64-56 || !ok {
		t.Errorf("Wrap(I8, 200) = %d, %v", w, ok)
	}
	if w, ok := Wrap(U8, 1<<64-1); w != 255 || !ok {
		t.Errorf("Wrap(U8, 2^64 - 1) = %d, %v", w, ok)
	}
	if w, ok := Wrap(9, 1); w != 0 || ok {
		t.Errorf("Wrap(9, 1) = %d, %v", w, ok)
	}
	if in, ok := Fits(I16, 32768); in || !ok {
		t.Errorf("Fits(I16, 32768) = %v, %v", in, ok)
	}
	if in, ok := Fits(U64, -1); in || !ok {
		t.Errorf("Fits(U64, -1) = %v, %v", in, ok)
	}
	if in, ok := Fits(U64, math.MaxInt); !in || !ok {
		t.Errorf("Fits(U64, greatest int) = %v, %v", in, ok)
	}
}

// placesInside: every field that lies within 64 bits, the empty ones too.
func placesInside() [][2]int {
	var out [][2]int
	for at := 0; at <= 64; at++ {
		for width := 0; at+width <= 64; width++ {
			out = append(out, [2]int{at, width})
		}
	}
	return out
}

// placesOutside: fields of which a part is missing, so far away too that the sum of both numbers wraps.
func placesOutside() [][2]int {
	out := [][2]int{{math.MaxInt, math.MaxInt}, {math.MaxInt, 1}, {1, math.MaxInt}, {math.MaxInt - 63, 64}, {64, math.MaxInt - 63},
		{math.MinInt, math.MinInt}, {math.MinInt, 0}, {0, math.MinInt}, {math.MinInt, math.MaxInt}, {math.MaxInt, math.MinInt},
		{65, 0}, {64, 1}, {0, 65}, {1, 64}, {60, 5}, {-1, 0}, {0, -1}, {-1, 1}, {1, -1}, {-1, 65}, {65, -1}, {70, -6}, {-6, 70},
		{math.MaxInt, -1}, {-1, math.MaxInt}, {math.MaxInt, 0}, {0, math.MaxInt}, {1 << 32, 0}, {0, 1 << 32}}
	for at := 1; at <= 64; at++ {
		out = append(out, [2]int{at, 65 - at})
	}
	return out
}

func bitOf(x uint64, n int) uint64 {
	return x >> uint(n) & 1
}

func TestField(t *testing.T) {
	for _, x := range []uint64{0, 1, 1 << 63, math.MaxUint64, 0xdeadbeefcafe1234, 0x5555aaaa0f0f3333} {
		for _, p := range placesInside() {
			var want uint64
			for i := range p[1] {
				want |= bitOf(x, p[0]+i) << uint(i)
			}
			if got, ok := Field(x, p[0], p[1]); !ok || got != want {
				t.Errorf("Field(%#x, %d, %d) = %#x, %v, not %#x", x, p[0], p[1], got, ok, want)
			}
		}
		for _, p := range placesOutside() {
			if got, ok := Field(x, p[0], p[1]); ok || got != 0 {
				t.Errorf("Field(%#x, %d, %d) = %#x, %v", x, p[0], p[1], got, ok)
			}
		}
	}
}

// putBits: what Put has to answer, bit by bit.
func putBits(x uint64, at, width int, v uint64) uint64 {
	var out uint64
	for i := range 64 {
		b := bitOf(x, i)
		if at <= i && i < at+width {
			b = bitOf(v, i-at)
		}
		out |= b << uint(i)
	}
	return out
}

func TestPut(t *testing.T) {
	pairs := [][2]uint64{{0, math.MaxUint64}, {math.MaxUint64, 0}, {0xdeadbeefcafe1234, 0x5555aaaa0f0f3333}, {1 << 63, 1}}
	for _, pair := range pairs {
		x, v := pair[0], pair[1]
		for _, p := range placesInside() {
			want := putBits(x, p[0], p[1], v)
			if got, ok := Put(x, p[0], p[1], v); !ok || got != want {
				t.Errorf("Put(%#x, %d, %d, %#x) = %#x, %v, not %#x", x, p[0], p[1], v, got, ok, want)
			}
		}
		for _, p := range placesOutside() {
			if got, ok := Put(x, p[0], p[1], v); ok || got != 0 {
				t.Errorf("Put(%#x, %d, %d, %#x) = %#x, %v", x, p[0], p[1], v, got, ok)
			}
		}
	}
}

func TestFieldExamples(t *testing.T) {
	if f, ok := Field(0b11010, 1, 3); f != 0b101 || !ok {
		t.Errorf("Field(0b11010, 1, 3) = %b, %v", f, ok)
	}
	if p, ok := Put(0, 62, 2, 7); p != 3<<62 || !ok {
		t.Errorf("Put(0, 62, 2, 7) = %#x, %v", p, ok)
	}
	if f, ok := Field(5, 60, 5); f != 0 || ok {
		t.Errorf("Field(5, 60, 5) = %d, %v", f, ok)
	}
	if f, ok := Field(5, 64, 0); f != 0 || !ok {
		t.Errorf("Field(5, 64, 0) = %d, %v", f, ok)
	}
	if p, ok := Put(5, 64, 0, 9); p != 5 || !ok {
		t.Errorf("Put(5, 64, 0, 9) = %d, %v", p, ok)
	}
}

// small: a count that moves as far as n does, but isn't so great that a power of two of it can't be written down.
func small(n int) int {
	return max(-200, min(200, n))
}

func TestShift(t *testing.T) {
	for _, u := range words() {
		x := int(u)
		for _, n := range counts() {
			want := big.NewInt(int64(x))
			if m := small(n); m >= 0 {
				want.Mul(want, bigPower(m))
			} else {
				// The divisor is above 0, so Euclid's quotient is the one that is rounded down.
				want.Div(want, bigPower(-m))
			}
			if got := Shift(x, n); got != int(low64(want)) {
				t.Errorf("Shift(%d, %d) = %d, not %d", x, n, got, int(low64(want)))
			}
		}
	}
}

func TestMove(t *testing.T) {
	for _, x := range words() {
		for _, n := range counts() {
			want := bigWord(x)
			if m := small(n); m >= 0 {
				want.Mul(want, bigPower(m))
			} else {
				want.Div(want, bigPower(-m))
			}
			if got := Move(x, n); got != low64(want) {
				t.Errorf("Move(%#x, %d) = %#x, not %#x", x, n, got, low64(want))
			}
		}
	}
}

func TestTurn(t *testing.T) {
	for _, u := range words() {
		x := uint32(u)
		for _, n := range counts() {
			steps := int(new(big.Int).Mod(big.NewInt(int64(n)), big.NewInt(32)).Int64())
			want := x
			for range steps {
				out := want >> 31
				want = want<<1 | out
			}
			if got := Turn(x, n); got != want {
				t.Errorf("Turn(%#x, %d) = %#x, not %#x", x, n, got, want)
			}
		}
	}
}

func TestShiftExamples(t *testing.T) {
	shifts := []struct{ x, n, want int }{
		{-5, -1, -3}, {1, 63, math.MinInt}, {-1, -9999, -1}, {7, 64, 0}, {-7, 64, 0}, {5, -64, 0}, {-5, -64, -1}, {-5, -63, -1},
		{math.MinInt, -63, -1}, {math.MaxInt, -63, 0}, {math.MinInt, math.MinInt, -1}, {math.MaxInt, math.MinInt, 0},
		{-1, math.MaxInt, 0}, {3, 0, 3}, {-3, 0, -3}, {math.MaxInt, 1, -2},
	}
	for _, s := range shifts {
		if got := Shift(s.x, s.n); got != s.want {
			t.Errorf("Shift(%d, %d) = %d, not %d", s.x, s.n, got, s.want)
		}
	}
	if Move(1, -1) != 0 || Move(1<<63, -63) != 1 || Move(1, 63) != 1<<63 || Move(math.MaxUint64, 64) != 0 {
		t.Error("Move")
	}
	if Move(math.MaxUint64, -64) != 0 || Move(math.MaxUint64, math.MinInt) != 0 || Move(math.MaxUint64, math.MaxInt) != 0 {
		t.Error("Move from 64 bits on")
	}
	if Turn(1, -1) != 1<<31 || Turn(1<<31, 1) != 1 || Turn(5, 32) != 5 || Turn(5, -32) != 5 || Turn(5, math.MinInt) != 5 {
		t.Error("Turn")
	}
}

func TestZigZag(t *testing.T) {
	for _, u := range words() {
		x := int(u)
		want := new(big.Int).Mul(big.NewInt(int64(x)), big.NewInt(2))
		if x < 0 {
			want.Neg(want)
			want.Sub(want, big.NewInt(1))
		}
		if got := Zig(x); bigWord(got).Cmp(want) != 0 {
			t.Errorf("Zig(%d) = %d, not %v", x, got, want)
		}
		if back := Zag(Zig(x)); back != x {
			t.Errorf("Zag(Zig(%d)) = %d", x, back)
		}
		if back := Zig(Zag(u)); back != u {
			t.Errorf("Zig(Zag(%d)) = %d", u, back)
		}
	}
	if Zig(-1) != 1 || Zig(1) != 2 || Zag(3) != -2 || Zig(0) != 0 || Zig(math.MinInt) != math.MaxUint64 || Zag(math.MaxUint64) != math.MinInt {
		t.Error("Zig and Zag at the document's numbers and at the ends")
	}
}

func TestVarint(t *testing.T) {
	for _, u := range words() {
		got, want := Varint(u), binary.AppendUvarint(nil, u)
		if !bytes.Equal(got, want) {
			t.Errorf("Varint(%d) = %x, not %x", u, got, want)
		}
	}
	if !bytes.Equal(Varint(0), []byte{0}) || !bytes.Equal(Varint(300), []byte{0xac, 2}) {
		t.Error("Varint of 0 and of 300")
	}
}

func TestUnvarOfVarint(t *testing.T) {
	for _, u := range words() {
		v := binary.AppendUvarint(nil, u)
		for _, tail := range [][]byte{nil, {0}, {7}, {0x80}, {0xff, 0xff}} {
			if got, n := Unvar(slices.Concat(v, tail)); got != u || n != len(v) {
				t.Errorf("Unvar(%x, %x) = %d, %d, not %d, %d", v, tail, got, n, u, len(v))
			}
		}
		for n := range v {
			if got, took := Unvar(v[:n]); got != 0 || took != 0 {
				t.Errorf("Unvar(%x), which ends too early, = %d, %d", v[:n], got, took)
			}
		}
		long := slices.Clone(v)
		long[len(long)-1] |= 0x80
		if got, took := Unvar(append(long, 0)); got != 0 || took != 0 {
			t.Errorf("Unvar(%x), longer than need be, = %d, %d", long, got, took)
		}
	}
}

// unvarByWords: Unvar as the document words it: which number's Varint does b begin with?
func unvarByWords(b []byte) (uint64, int) {
	u, n := binary.Uvarint(b)
	if n <= 0 || !bytes.Equal(binary.AppendUvarint(nil, u), b[:n]) {
		return 0, 0
	}
	return u, n
}

func TestUnvarOfAnyBytes(t *testing.T) {
	heads := [][]byte{nil, bytes.Repeat([]byte{0x80}, 7), bytes.Repeat([]byte{0xff}, 7), bytes.Repeat([]byte{0x80}, 8), bytes.Repeat([]byte{0xff}, 8)}
	marks := []byte{0, 1, 2, 3, 0x7e, 0x7f, 0x80, 0x81, 0x82, 0xfe, 0xff}
	for _, head := range heads {
		for _, x := range marks {
			for _, y := range marks {
				for _, z := range marks {
					b := slices.Concat(head, []byte{x, y, z})
					wantU, wantN := unvarByWords(b)
					if u, n := Unvar(b); u != wantU || n != wantN {
						t.Errorf("Unvar(%x) = %d, %d, not %d, %d", b, u, n, wantU, wantN)
					}
				}
			}
		}
	}
}

// noVarints: bytes that no Varint begins, by the document's three reasons.
var noVarints = [][]byte{
	{}, {0x80}, {0xff, 0xff}, // end too early
	{0x80, 0}, {0xff, 0}, {0x81, 0x80, 0}, {0x80, 0x80, 0x80, 0x80, 0x80, 0x80, 0x80, 0x80, 0x80, 0}, // longer than need be
	{255, 255, 255, 255, 255, 255, 255, 255, 255, 2}, {128, 128, 128, 128, 128, 128, 128, 128, 128, 2}, // above 2^64 - 1
	{255, 255, 255, 255, 255, 255, 255, 255, 255, 127}, {255, 255, 255, 255, 255, 255, 255, 255, 255, 129, 0},
	{255, 255, 255, 255, 255, 255, 255, 255, 255, 128, 1}, {128, 128, 128, 128, 128, 128, 128, 128, 128, 128, 128, 128, 1},
}

func TestNoVarint(t *testing.T) {
	for _, b := range noVarints {
		if u, n := Unvar(b); u != 0 || n != 0 {
			t.Errorf("Unvar(%x) = %d, %d", b, u, n)
		}
		if len(b) == 0 {
			continue
		}
		for _, head := range [][]byte{nil, {1}, {0xac, 2, 0}} {
			if nums, ok := Unpack(slices.Concat(head, b)); ok || len(nums) != 0 {
				t.Errorf("Unpack(%x, %x) = %v, %v", head, b, nums, ok)
			}
		}
	}
	if u, n := Unvar(bytes.Repeat([]byte{0x80}, 100000)); u != 0 || n != 0 {
		t.Errorf("Unvar of bytes without an end = %d, %d", u, n)
	}
}

func TestPack(t *testing.T) {
	all := words()
	for n := range len(all) + 1 {
		nums := all[:n]
		var want []byte
		for _, u := range nums {
			want = binary.AppendUvarint(want, u)
		}
		got := Pack(nums)
		if !bytes.Equal(got, want) {
			t.Errorf("Pack of %d numbers = %x, not %x", n, got, want)
		}
		if back, ok := Unpack(want); !ok || !slices.Equal(back, nums) {
			t.Errorf("Unpack(%x) = %v, %v", want, back, ok)
		}
	}
}

func TestPackExamples(t *testing.T) {
	for _, b := range [][]byte{nil, {}} {
		if nums, ok := Unpack(b); !ok || len(nums) != 0 {
			t.Errorf("Unpack of no bytes = %v, %v", nums, ok)
		}
	}
	if len(Pack(nil)) != 0 || len(Pack([]uint64{})) != 0 {
		t.Error("Pack of no numbers")
	}
	if nums, ok := Unpack([]byte{1, 0x80}); ok || len(nums) != 0 {
		t.Errorf("Unpack(01 80) = %v, %v", nums, ok)
	}
	if nums, ok := Unpack([]byte{0, 0xac, 2, 0}); !ok || !slices.Equal(nums, []uint64{0, 300, 0}) {
		t.Errorf("Unpack(00 ac 02 00) = %v, %v", nums, ok)
	}
	if u, n := Unvar([]byte{0xac, 2, 7}); u != 300 || n != 2 {
		t.Errorf("Unvar(ac 02 07) = %d, %d", u, n)
	}
}

// roomy: a list with room behind it that is filled, so that a write there shows.
func roomy[E any](list []E, fill E) []E {
	whole := slices.Clone(list)
	for range 9 {
		whole = append(whole, fill)
	}
	return whole[:len(list)]
}

func whole[E any](list []E) []E {
	return list[:cap(list)]
}

// scribble: everything that can be reached through an answer is written over.
func scribble[E any](list []E, with E) {
	list = whole(list)
	for i := range list {
		list[i] = with
	}
}

func TestBytesHandedInStay(t *testing.T) {
	for _, b := range [][]byte{nil, {0}, {0xac, 2}, {0xac, 2, 7}, {0x80}, {1, 0x80}} {
		in := roomy(b, 0x55)
		before := slices.Clone(whole(in))
		u, n := Unvar(in)
		nums, ok := Unpack(in)
		kept := slices.Clone(nums)
		scribble(nums, 99)
		if !slices.Equal(whole(in), before) {
			t.Errorf("%x was changed to %x", before, whole(in))
		}
		againU, againN := Unvar(in)
		if again, againOK := Unpack(in); !slices.Equal(again, kept) || againOK != ok || againU != u || againN != n {
			t.Errorf("%x is answered otherwise the second time", b)
		}
	}
}

func TestNumbersHandedInStay(t *testing.T) {
	for _, nums := range [][]uint64{nil, {0}, {1, 300, math.MaxUint64}} {
		in := roomy(nums, 0x55)
		before := slices.Clone(whole(in))
		packed := Pack(in)
		kept := slices.Clone(packed)
		second := Pack(in)
		scribble(packed, 99)
		if !slices.Equal(whole(in), before) || !slices.Equal(second, kept) {
			t.Errorf("Pack(%v) shares memory or changes what it is handed", nums)
		}
	}
	for _, u := range []uint64{0, 1, 300, math.MaxUint64} {
		first, second := Varint(u), Varint(u)
		kept := slices.Clone(second)
		scribble(first, 99)
		if !slices.Equal(second, kept) {
			t.Errorf("two answers of Varint(%d) share memory", u)
		}
	}
}
