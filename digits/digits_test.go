package digits

import (
	"math"
	"math/big"
	"slices"
	"strings"
	"testing"

	"attest/api"
)

const top = math.MaxUint32

func toBig(a []uint32) *big.Int {
	sum := new(big.Int)
	for i := len(a) - 1; i >= 0; i-- {
		sum.Lsh(sum, 32)
		sum.Or(sum, big.NewInt(int64(a[i])))
	}
	return sum
}

// limbs: a number that is 0 or above as the document wants an answer: no nought at the end.
func limbs(x *big.Int) []uint32 {
	var out []uint32
	x = new(big.Int).Set(x)
	for x.Sign() > 0 {
		out = append(out, uint32(x.Uint64()&top))
		x.Rsh(x, 32)
	}
	return out
}

func tens(n int) *big.Int {
	return new(big.Int).Exp(big.NewInt(10), big.NewInt(int64(n)), nil)
}

// lists: nought in several writings, small numbers, those about a power of ten or of two, with noughts at their end.
func lists() [][]uint32 {
	out := [][]uint32{nil, {}, {0}, {0, 0}, {7}, {9, 0}, {1000}, {top, 0, 0}, {0, 1}, {0, 1, 0}, {top, top, top}, slices.Repeat([]uint32{top}, 50)}
	one := big.NewInt(1)
	for n := range 60 {
		for _, x := range []*big.Int{tens(n), new(big.Int).Lsh(one, uint(7*n))} {
			out = append(out, limbs(x), limbs(new(big.Int).Sub(x, one)), append(limbs(new(big.Int).Add(x, one)), 0))
		}
	}
	return out
}

func TestText(t *testing.T) {
	for _, a := range lists() {
		want := toBig(a).String()
		if got := Text(a); got != want {
			t.Errorf("Text(%v) = %q, not %q", a, got, want)
		}
		if got := Count(a); got != len(want) {
			t.Errorf("Count(%v) = %d, not %d", a, got, len(want))
		}
	}
	if Text([]uint32{0, 1}) != "4294967296" || Text(nil) != "0" || Count([]uint32{9, 0}) != 1 || Count(nil) != 1 {
		t.Error("the document's examples")
	}
}

// TestTextOfLongNumbers: texts aren't bound by MaxDigits, only what is read is.
func TestTextOfLongNumbers(t *testing.T) {
	for _, n := range []int{api.MaxDigits - 1, api.MaxDigits, 30000} {
		for _, x := range []*big.Int{tens(n), new(big.Int).Sub(tens(n), big.NewInt(1))} {
			a := limbs(x)
			if Text(a) != x.String() || Count(a) != len(x.String()) {
				t.Errorf("a number about 10^%d", n)
			}
			if got, e := Pad(a, api.MaxDigits); e != api.OK || got != strings.Repeat("0", max(0, api.MaxDigits-len(x.String())))+x.String() {
				t.Errorf("Pad of a number about 10^%d: %d", n, e)
			}
		}
	}
}

func TestPad(t *testing.T) {
	for _, a := range lists() {
		text := toBig(a).String()
		for _, n := range []int{0, 1, 2, 3, 9, 10, len(text) - 1, len(text), len(text) + 1, 100, api.MaxDigits - 1, api.MaxDigits} {
			want := text
			if n > len(text) {
				want = strings.Repeat("0", n-len(text)) + text
			}
			if got, e := Pad(a, n); e != api.OK || got != want {
				t.Errorf("Pad(%v, %d) = %q, %d", a, n, got, e)
			}
		}
	}
	if got, e := Pad([]uint32{7}, 3); e != api.OK || got != "007" {
		t.Errorf("Pad((7), 3) = %q, %d", got, e)
	}
	if got, e := Pad([]uint32{1000}, 2); e != api.OK || got != "1000" {
		t.Errorf("Pad((1000), 2) = %q, %d", got, e)
	}
	if got, e := Pad(nil, 0); e != api.OK || got != "0" {
		t.Errorf("Pad((), 0) = %q, %d", got, e)
	}
}

// refused: counts of digits that Pad and Tens refuse, and why.
var refused = []struct {
	n int
	e api.Errno
}{
	{-1, api.ErrArg}, {-api.MaxDigits, api.ErrArg}, {math.MinInt32, api.ErrArg}, {math.MinInt, api.ErrArg},
	{api.MaxDigits + 1, api.ErrBig}, {math.MaxInt32, api.ErrBig}, {math.MaxInt, api.ErrBig},
}

func TestPadRefuses(t *testing.T) {
	for _, a := range lists() {
		for _, c := range refused {
			if got, e := Pad(a, c.n); e != c.e || got != "" {
				t.Errorf("Pad(%v, %d) = %q, %d", a, c.n, got, e)
			}
		}
	}
}

func TestTens(t *testing.T) {
	want := big.NewInt(1)
	for n := range 2500 {
		if got, e := Tens(n); e != api.OK || !slices.Equal(got, limbs(want)) {
			t.Errorf("Tens(%d) = %v, %d", n, got, e)
		}
		want.Mul(want, big.NewInt(10))
	}
	for _, n := range []int{2999, 3000, 3001, 9999, 10000, 18999, 19000, 19999, api.MaxDigits} {
		if got, e := Tens(n); e != api.OK || !slices.Equal(got, limbs(tens(n))) {
			t.Errorf("Tens(%d): %d", n, e)
		}
	}
	for _, c := range refused {
		if got, e := Tens(c.n); e != c.e || len(got) != 0 {
			t.Errorf("Tens(%d) = %v, %d", c.n, got, e)
		}
	}
	if got, e := Tens(10); e != api.OK || !slices.Equal(got, []uint32{1410065408, 2}) {
		t.Errorf("Tens(10) = %v, %d", got, e)
	}
}

func checkParse(t *testing.T, s string) {
	t.Helper()
	want, _ := new(big.Int).SetString(s, 10)
	if got, e := Parse(s); e != api.OK || !slices.Equal(got, limbs(want)) {
		t.Errorf("Parse(%.50q) = %v, %d", s, got, e)
	}
}

func TestParse(t *testing.T) {
	for _, a := range lists() {
		text := toBig(a).String()
		for noughts := range 20 {
			checkParse(t, strings.Repeat("0", noughts)+text)
		}
	}
	if got, e := Parse("0012"); e != api.OK || !slices.Equal(got, []uint32{12}) {
		t.Errorf("Parse(0012) = %v, %d", got, e)
	}
	if got, e := Parse("000"); e != api.OK || len(got) != 0 {
		t.Errorf("Parse(000) = %v, %d", got, e)
	}
}

func TestParseOfTheLongestTexts(t *testing.T) {
	for n := api.MaxDigits - 9; n <= api.MaxDigits; n++ {
		checkParse(t, strings.Repeat("9", n))
		checkParse(t, "1"+strings.Repeat("0", n-1))
		checkParse(t, strings.Repeat("0", n-1)+"7")
		checkParse(t, strings.Repeat("0", n))
		checkParse(t, strings.Repeat("1234567890", n/10))
	}
}

func TestParseRefusesLongTexts(t *testing.T) {
	for _, n := range []int{api.MaxDigits + 1, api.MaxDigits + 9, 50000} {
		for _, s := range []string{"0", "1", "9", "x", " ", "\xff"} {
			if got, e := Parse(strings.Repeat(s, n)); e != api.ErrBig || len(got) != 0 {
				t.Errorf("Parse of %d bytes %q = %v, %d", n, s, got, e)
			}
		}
	}
	// Bytes are counted, not letters.
	if _, e := Parse(strings.Repeat("１", api.MaxDigits/3+1)); e != api.ErrBig {
		t.Errorf("Parse of wide digits: %d", e)
	}
}

func TestParseRefusesOtherBytes(t *testing.T) {
	for _, s := range []string{"", "1a", "-1", "+1", "１", "1_0", "0x1", "1e3", "1.0", " 1", "1 ", "1\n", "\x00", "٣", "1/2"} {
		if got, e := Parse(s); e != api.ErrText || len(got) != 0 {
			t.Errorf("Parse(%q) = %v, %d", s, got, e)
		}
	}
	for length := 1; length < 30; length++ {
		for place := range length {
			for c := range 256 {
				if c >= '0' && c <= '9' {
					continue
				}
				text := slices.Repeat([]byte{'4'}, length)
				text[place] = byte(c)
				if got, e := Parse(string(text)); e != api.ErrText || len(got) != 0 {
					t.Fatalf("Parse(%q) = %v, %d", text, got, e)
				}
			}
		}
	}
	for _, place := range []int{0, 1, 10000, api.MaxDigits - 1} {
		text := slices.Repeat([]byte{'1'}, api.MaxDigits)
		text[place] = ':'
		if got, e := Parse(string(text)); e != api.ErrText || len(got) != 0 {
			t.Errorf("Parse with a wrong byte at %d = %v, %d", place, got, e)
		}
	}
}

func TestListsHandedInStay(t *testing.T) {
	for _, list := range lists() {
		room := slices.Concat(list, slices.Repeat([]uint32{0x55}, 9))
		before := slices.Clone(room)
		a := room[:len(list)]
		text := Text(a)
		Count(a)
		padded, _ := Pad(a, 30)
		if !slices.Equal(room, before) {
			t.Errorf("%v was changed", list)
		}
		// Texts don't follow what the caller does to the list later.
		for i := range room {
			room[i] = 99
		}
		if text != toBig(list).String() || !strings.HasSuffix(padded, text) {
			t.Errorf("the text of %v changed with the list", list)
		}
	}
}

func TestAnswersAreNew(t *testing.T) {
	for _, n := range []int{0, 1, 9, 10, 100, 999, 1000, 1001, 20000} {
		first, _ := Tens(n)
		second, _ := Parse("1" + strings.Repeat("0", min(n, 19999)))
		kept := slices.Clone(second)
		for i, list := 0, first[:cap(first)]; i < len(list); i++ {
			list[i] = 99
		}
		if again, _ := Tens(n); !slices.Equal(again, limbs(tens(n))) {
			t.Errorf("Tens(%d) is answered otherwise the second time", n)
		}
		if !slices.Equal(second, kept) {
			t.Errorf("Parse and Tens of 10^%d share memory", n)
		}
		for i, list := 0, second[:cap(second)]; i < len(list); i++ {
			list[i] = 99
		}
		if again, _ := Parse("1" + strings.Repeat("0", min(n, 19999))); !slices.Equal(again, kept) {
			t.Errorf("Parse of 10^%d is answered otherwise the second time", n)
		}
	}
}
