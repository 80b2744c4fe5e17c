package limb

import (
	"math"
	"math/big"
	"slices"
	"testing"

	"attest/api"
)

const top = math.MaxUint32

// noise: n limbs without a pattern, the same ones each time.
func noise(n int, seed uint64) []uint32 {
	out := make([]uint32, n)
	for i := range out {
		seed ^= seed << 13
		seed ^= seed >> 7
		seed ^= seed << 17
		out[i] = uint32(seed >> 16)
	}
	return out
}

// lists: nought in several writings, numbers with noughts at their end and within, full ones, and long ones.
func lists() [][]uint32 {
	out := [][]uint32{
		nil, {}, {0}, {0, 0, 0}, {1}, {1, 0}, {2}, {3}, {5, 0, 0}, {258}, {1 << 31}, {top}, {top, 0, 0},
		{0, 1}, {0, 0, 1}, {0, 4}, {0, 4, 0}, {1, 1}, {top, top}, {top, top, 0}, {top, top, top}, {1 << 31, 1}, {0, 1 << 31},
		{1, 2, 3}, {1, 2, 0}, {0, 0, 0, 0, 1 << 31}, {top, 0, top, 0}, {0x01020304, 0x05060708, 0x00000900},
	}
	for i := range 12 {
		out = append(out, noise(i*i%17+1, uint64(i)*7919+1))
		out = append(out, append(noise(i+1, uint64(i)*104729+5), 0, 0))
	}
	return append(out, slices.Repeat([]uint32{top}, 40), append(make([]uint32, 40), 6, 0))
}

func toBig(a []uint32) *big.Int {
	sum := new(big.Int)
	for i := len(a) - 1; i >= 0; i-- {
		sum.Lsh(sum, 32)
		sum.Or(sum, big.NewInt(int64(a[i])))
	}
	return sum
}

// limbs: a number that is 0 or above as the document wants an answer: no nought at the end.
func limbs(x *big.Int) []uint32 {
	var out []uint32
	x = new(big.Int).Set(x)
	for x.Sign() > 0 {
		out = append(out, uint32(x.Uint64()&top))
		x.Rsh(x, 32)
	}
	return out
}

func TestNorm(t *testing.T) {
	for _, a := range lists() {
		if got := Norm(a); !slices.Equal(got, limbs(toBig(a))) {
			t.Errorf("Norm(%v) = %v", a, got)
		}
	}
	if got := Norm([]uint32{5, 0, 0}); !slices.Equal(got, []uint32{5}) {
		t.Errorf("Norm(5, 0, 0) = %v", got)
	}
}

func TestCmp(t *testing.T) {
	for _, a := range lists() {
		for _, b := range lists() {
			if got, want := Cmp(a, b), toBig(a).Cmp(toBig(b)); got != want {
				t.Errorf("Cmp(%v, %v) = %d, not %d", a, b, got, want)
			}
		}
	}
	if Cmp([]uint32{1, 0}, []uint32{1}) != 0 || Cmp(nil, []uint32{0, 0}) != 0 || Cmp([]uint32{0, 1}, []uint32{top}) != 1 {
		t.Error("Cmp")
	}
}

func TestBits(t *testing.T) {
	for _, a := range lists() {
		if got, want := Bits(a), toBig(a).BitLen(); got != want {
			t.Errorf("Bits(%v) = %d, not %d", a, got, want)
		}
	}
	for n := range 130 {
		a := limbs(new(big.Int).Lsh(big.NewInt(1), uint(n)))
		if Bits(a) != n+1 || Twos(a) != n {
			t.Errorf("2^%d: Bits %d, Twos %d", n, Bits(a), Twos(a))
		}
	}
	if Bits([]uint32{0, 1}) != 33 || Bits([]uint32{0, 0}) != 0 {
		t.Error("Bits of the document's examples")
	}
}

func TestBit(t *testing.T) {
	far := []int{math.MinInt, math.MinInt + 1, math.MinInt32, -64, -33, -32, -31, -1, 1 << 20, math.MaxInt32, 1 << 37, math.MaxInt - 31, math.MaxInt}
	for _, a := range lists() {
		x := toBig(a)
		for n := range 32*len(a) + 70 {
			if got, want := Bit(a, n), x.Bit(n) == 1; got != want {
				t.Errorf("Bit(%v, %d) = %v", a, n, got)
			}
		}
		for _, n := range far {
			if Bit(a, n) {
				t.Errorf("Bit(%v, %d) is set", a, n)
			}
		}
	}
	if !Bit([]uint32{0, 1}, 32) {
		t.Error("Bit((0, 1), 32)")
	}
}

func TestTwos(t *testing.T) {
	for _, a := range lists() {
		if got, want := Twos(a), int(toBig(a).TrailingZeroBits()); got != want {
			t.Errorf("Twos(%v) = %d, not %d", a, got, want)
		}
	}
	if Twos([]uint32{0, 4}) != 34 || Twos(nil) != 0 || Twos([]uint32{0, 0}) != 0 {
		t.Error("Twos of the document's examples")
	}
}

func TestAdd(t *testing.T) {
	for _, a := range lists() {
		for _, b := range lists() {
			want := limbs(new(big.Int).Add(toBig(a), toBig(b)))
			if got := Add(a, b); !slices.Equal(got, want) {
				t.Errorf("Add(%v, %v) = %v, not %v", a, b, got, want)
			}
		}
	}
	if got := Add([]uint32{top}, []uint32{1}); !slices.Equal(got, []uint32{0, 1}) {
		t.Errorf("Add((2^32 - 1), (1)) = %v", got)
	}
}

func TestSub(t *testing.T) {
	for _, a := range lists() {
		for _, b := range lists() {
			diff := new(big.Int).Sub(toBig(a), toBig(b))
			got, ok := Sub(a, b)
			if ok != (diff.Sign() >= 0) || !slices.Equal(got, limbs(diff)) {
				t.Errorf("Sub(%v, %v) = %v, %v, not %v", a, b, got, ok, diff)
			}
		}
	}
	if got, ok := Sub([]uint32{0, 1}, []uint32{1}); !ok || !slices.Equal(got, []uint32{top}) {
		t.Errorf("Sub((0, 1), (1)) = %v, %v", got, ok)
	}
	if got, ok := Sub([]uint32{1}, []uint32{2}); ok || len(got) != 0 {
		t.Errorf("Sub((1), (2)) = %v, %v", got, ok)
	}
}

var shifts = []int{0, 1, 2, 7, 30, 31, 32, 33, 63, 64, 65, 95, 96, 97, 1000, 99999, api.MaxShift}

func TestShl(t *testing.T) {
	for _, a := range lists() {
		for _, n := range shifts {
			want := limbs(new(big.Int).Lsh(toBig(a), uint(n)))
			if got, ok := Shl(a, n); !ok || !slices.Equal(got, want) {
				t.Errorf("Shl(%v, %d) = %v, %v", a, n, got, ok)
			}
		}
	}
	if got, ok := Shl([]uint32{3}, 31); !ok || !slices.Equal(got, []uint32{1 << 31, 1}) {
		t.Errorf("Shl((3), 31) = %v, %v", got, ok)
	}
}

func TestShr(t *testing.T) {
	for _, a := range lists() {
		for _, n := range shifts {
			want := limbs(new(big.Int).Rsh(toBig(a), uint(n)))
			if got, ok := Shr(a, n); !ok || !slices.Equal(got, want) {
				t.Errorf("Shr(%v, %d) = %v, %v", a, n, got, ok)
			}
		}
	}
	long := noise(api.MaxShift/32+3, 77)
	if got, ok := Shr(long, api.MaxShift); !ok || !slices.Equal(got, limbs(new(big.Int).Rsh(toBig(long), api.MaxShift))) {
		t.Errorf("Shr of a long number by MaxShift = %v, %v", got, ok)
	}
	if got, ok := Shr([]uint32{1 << 31, 1}, 31); !ok || !slices.Equal(got, []uint32{3}) {
		t.Errorf("Shr((2^31, 1), 31) = %v, %v", got, ok)
	}
	if got, ok := Shr([]uint32{1}, 100000); !ok || len(got) != 0 {
		t.Errorf("Shr((1), 100000) = %v, %v", got, ok)
	}
}

func TestShiftsThatAreRefused(t *testing.T) {
	for _, a := range lists() {
		for _, n := range []int{math.MinInt, math.MinInt + 1, math.MinInt32, -32, -1, 100001, 1 << 32, 1<<32 + 1, math.MaxInt - 31, math.MaxInt} {
			if got, ok := Shl(a, n); ok || len(got) != 0 {
				t.Errorf("Shl(%v, %d) = %v, %v", a, n, got, ok)
			}
			if got, ok := Shr(a, n); ok || len(got) != 0 {
				t.Errorf("Shr(%v, %d) = %v, %v", a, n, got, ok)
			}
		}
	}
}

func TestWord(t *testing.T) {
	for i := range 64 {
		p := uint64(1) << uint(i)
		for _, u := range []uint64{p - 1, p, p + 1, ^p, -p} {
			got := Word(u)
			if !slices.Equal(got, limbs(new(big.Int).SetUint64(u))) {
				t.Errorf("Word(%#x) = %v", u, got)
			}
			if back, all := Low(got); back != u || !all {
				t.Errorf("Low(Word(%#x)) = %#x, %v", u, back, all)
			}
		}
	}
	if got := Word(1 << 32); !slices.Equal(got, []uint32{0, 1}) {
		t.Errorf("Word(2^32) = %v", got)
	}
	if got := Word(0); len(got) != 0 {
		t.Errorf("Word(0) = %v", got)
	}
}

func TestLow(t *testing.T) {
	modulus := new(big.Int).Lsh(big.NewInt(1), 64)
	for _, a := range lists() {
		x := toBig(a)
		want := new(big.Int).Mod(x, modulus).Uint64()
		if u, all := Low(a); u != want || all != (x.Cmp(modulus) < 0) {
			t.Errorf("Low(%v) = %#x, %v", a, u, all)
		}
	}
	if u, all := Low([]uint32{1, 2, 3}); u != 1<<33+1 || all {
		t.Errorf("Low((1, 2, 3)) = %d, %v", u, all)
	}
	if u, all := Low([]uint32{1, 2, 0, 0}); u != 1<<33+1 || !all {
		t.Errorf("Low((1, 2, 0, 0)) = %d, %v", u, all)
	}
}

func TestPack(t *testing.T) {
	for _, a := range lists() {
		want := toBig(a).Bytes()
		slices.Reverse(want)
		got := Pack(a)
		if !slices.Equal(got, want) {
			t.Errorf("Pack(%v) = %x, not %x", a, got, want)
		}
		for noughts := range 9 {
			b := slices.Concat(want, make([]byte, noughts))
			if back := Unpack(b); !slices.Equal(back, limbs(toBig(a))) {
				t.Errorf("Unpack(%x) = %v", b, back)
			}
		}
	}
	if got := Pack([]uint32{258}); !slices.Equal(got, []byte{2, 1}) {
		t.Errorf("Pack((258)) = %x", got)
	}
	if got := Unpack([]byte{2, 1, 0, 0, 0}); !slices.Equal(got, []uint32{258}) {
		t.Errorf("Unpack(02 01 00 00 00) = %v", got)
	}
	if len(Unpack(nil)) != 0 || len(Unpack([]byte{})) != 0 || len(Pack(nil)) != 0 {
		t.Error("nought is the empty list")
	}
}

func TestUnpackOfEachLength(t *testing.T) {
	for n := range 20 {
		b := make([]byte, n)
		want := new(big.Int)
		for i := n - 1; i >= 0; i-- {
			b[i] = byte(0xf1 - 13*i)
			want.Lsh(want, 8)
			want.Or(want, big.NewInt(int64(b[i])))
		}
		if got := Unpack(b); !slices.Equal(got, limbs(want)) {
			t.Errorf("Unpack(%x) = %v", b, got)
		}
	}
}

// roomy: a list with room behind it that is filled, so that a write there shows.
func roomy[E any](list []E, fill E) []E {
	whole := slices.Clone(list)
	for range 9 {
		whole = append(whole, fill)
	}
	return whole[:len(list)]
}

func whole[E any](list []E) []E {
	return list[:cap(list)]
}

// scribble: everything that can be reached through an answer is written over.
func scribble[E any](list []E, with E) {
	list = whole(list)
	for i := range list {
		list[i] = with
	}
}

// answers: what every call that is handed lists answers of these, as lists.
func answers(a, b []uint32) [][]uint32 {
	Cmp(a, b)
	Bits(a)
	Bit(a, 3)
	Twos(a)
	Low(a)
	out := [][]uint32{Norm(a), Add(a, b), Add(b, a)}
	more, _ := Sub(a, b)
	out = append(out, more)
	for _, n := range []int{0, 1, 32, 64, -1} {
		left, _ := Shl(a, n)
		right, _ := Shr(a, n)
		out = append(out, left, right)
	}
	return append(out, Word(1<<40+7))
}

func copies(all [][]uint32) [][]uint32 {
	var out [][]uint32
	for _, list := range all {
		out = append(out, slices.Clone(list))
	}
	return out
}

func TestListsHandedInStay(t *testing.T) {
	for _, first := range lists() {
		for _, second := range lists() {
			a, b := roomy(first, 0x55), roomy(second, 0x66)
			beforeA, beforeB := slices.Clone(whole(a)), slices.Clone(whole(b))
			got := answers(a, b)
			kept := copies(got)
			again := answers(a, b)
			for i, list := range got {
				scribble(list, 99)
				got[i] = nil
				for j := i + 1; j < len(got); j++ {
					if !slices.Equal(got[j], kept[j]) {
						t.Fatalf("answers %d and %d of %v, %v share memory", i, j, a, b)
					}
				}
			}
			if !slices.Equal(whole(a), beforeA) || !slices.Equal(whole(b), beforeB) {
				t.Fatalf("%v, %v were changed", first, second)
			}
			if !slices.EqualFunc(again, kept, slices.Equal[[]uint32]) {
				t.Fatalf("%v, %v: answers of two calls share memory, or differ", first, second)
			}
		}
	}
}

func TestOneListTwice(t *testing.T) {
	for _, list := range lists() {
		a := roomy(list, 0x55)
		before := slices.Clone(whole(a))
		diff, ok := Sub(a, a)
		if !ok || len(diff) != 0 || Cmp(a, a) != 0 || !slices.Equal(Add(a, a), limbs(new(big.Int).Lsh(toBig(list), 1))) {
			t.Errorf("%v with itself", list)
		}
		if !slices.Equal(whole(a), before) {
			t.Errorf("%v was changed", list)
		}
	}
}

func TestBytesStay(t *testing.T) {
	for _, list := range lists() {
		a := roomy(list, 0x55)
		beforeA := slices.Clone(whole(a))
		packed := Pack(a)
		b := roomy(packed, 0x66)
		beforeB := slices.Clone(whole(b))
		scribble(packed, 99)
		number := Unpack(b)
		second := Unpack(b)
		scribble(number, 99)
		if !slices.Equal(whole(a), beforeA) || !slices.Equal(whole(b), beforeB) || Cmp(second, list) != 0 {
			t.Errorf("Pack or Unpack of %v shares memory or changes what it is handed", list)
		}
		if !slices.Equal(Pack(a), b) {
			t.Errorf("Pack(%v) is answered otherwise the second time", list)
		}
	}
}
