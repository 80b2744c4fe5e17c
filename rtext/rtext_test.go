package rtext

import (
	"math"
	"math/big"
	"regexp"
	"slices"
	"strings"
	"testing"

	"attest/api"
	"attest/rat"
)

const top = math.MaxUint32

// limbs: the size of a number as layer 2 writes it.
func limbs(x *big.Int) []uint32 {
	var out []uint32
	x = new(big.Int).Abs(x)
	for x.Sign() > 0 {
		out = append(out, uint32(x.Uint64()&top))
		x.Rsh(x, 32)
	}
	return out
}

func give(t *testing.T, x *big.Rat) rat.Rat {
	t.Helper()
	r, ok := rat.Make(x.Sign() < 0, limbs(x.Num()), limbs(x.Denom()))
	if !ok {
		t.Fatalf("Make of %v", x)
	}
	return r
}

func is(r rat.Rat, x *big.Rat) bool {
	neg, num, den := rat.Parts(r)
	return neg == (x.Sign() < 0) && slices.Equal(num, limbs(x.Num())) && slices.Equal(den, limbs(x.Denom()))
}

func frac(t *testing.T, n, d int) rat.Rat {
	t.Helper()
	r, ok := rat.Frac(n, d)
	if !ok {
		t.Fatalf("Frac(%d, %d)", n, d)
	}
	return r
}

func power(base int64, n int) *big.Int {
	return new(big.Int).Exp(big.NewInt(base), big.NewInt(int64(n)), nil)
}

// numbers: 0, small fractions, those at the edges of ints and words, long ones, and fractions of twos and fives alone;
// and the opposites of all.
func numbers() []*big.Rat {
	var out []*big.Rat
	add := func(num, den *big.Int) {
		r := new(big.Rat).SetFrac(num, den)
		out = append(out, r, new(big.Rat).Neg(r))
	}
	for n := int64(0); n < 14; n++ {
		for d := int64(1); d < 14; d++ {
			add(big.NewInt(n), big.NewInt(d))
		}
	}
	for _, n := range []uint{31, 32, 63, 64, 100} {
		p := new(big.Int).Lsh(big.NewInt(1), n)
		less := new(big.Int).Sub(p, big.NewInt(1))
		add(p, big.NewInt(1))
		add(less, p)
		add(p, less)
		add(big.NewInt(1), p)
	}
	for _, n := range []int{1, 2, 9, 20, 200} {
		add(power(3, n), power(10, n))
		add(power(7, n), power(2, n))
		add(power(11, 2*n), power(5, n))
		add(big.NewInt(1), power(10, n))
		add(power(10, n), big.NewInt(3))
		add(big.NewInt(1), new(big.Int).Add(power(10, n), big.NewInt(1)))
	}
	return out
}

// meant: the number that one reads in a text that is one. (big's own reading of a bar takes a 0 in front for base 8.)
func meant(t *testing.T, s string) *big.Rat {
	t.Helper()
	above, below, bar := strings.Cut(s, "/")
	if !bar {
		whole, behind, _ := strings.Cut(s, ".")
		above, below = whole+behind, "1"+strings.Repeat("0", len(behind))
	}
	num, ok := new(big.Int).SetString(above, 10)
	den, fine := new(big.Int).SetString(below, 10)
	if !ok || !fine {
		t.Fatalf("%.50q is no number", s)
	}
	return new(big.Rat).SetFrac(num, den)
}

func checkParse(t *testing.T, s string) {
	t.Helper()
	if got, e := Parse(s); e != api.OK || !is(got, meant(t, s)) {
		t.Errorf("Parse(%.50q) = %.50s, %d", s, Print(got), e)
	}
}

func checkRefused(t *testing.T, s string, want api.Errno) {
	t.Helper()
	if got, e := Parse(s); e != want || got != (rat.Rat{}) {
		t.Errorf("Parse(%.50q) = %.50s, %d, not %d", s, Print(got), e, want)
	}
}

func TestParse(t *testing.T) {
	texts := []string{
		"0", "1", "-1", "007", "-007", "3/6", "-3/6", "0/5", "-0/5", "-0", "-000", "00/001", "0.5", "0.50", "-0.50", "00.050", "-0.0", "0.0",
		"12.000", "10/5", "9223372036854775807", "-9223372036854775808", "9223372036854775808", "18446744073709551616/3", "1/18446744073709551616",
		"-9223372036854775808/9223372036854775808", "123456789.987654321", "4/0002", "1/10", "0.1", "100/1000",
	}
	for _, s := range texts {
		checkParse(t, s)
	}
	for s, want := range map[string]rat.Rat{"3/6": frac(t, 1, 2), "0.50": frac(t, 1, 2), "-0.50": frac(t, -1, 2), "-0": {}} {
		if got, e := Parse(s); e != api.OK || rat.Cmp(got, want) != 0 {
			t.Errorf("Parse(%q) = %s, %d", s, Print(got), e)
		}
	}
}

func TestParseRefuses(t *testing.T) {
	texts := []string{
		"", "-", "1/0", "1/-2", ".5", "5.", "+1", "1/2/3", "1.5/2", "1/2.5", "--1", "-+1", "1-", "1 ", " 1", "1\n", "\t1", "- 1", "1 /2", "1/ 2",
		"/", "/2", "1/", "-/", "-/2", "-1/", "1/000", "0/0", "-0/0", "-1/00", ".", "-.", "-.5", "-5.", "1..2", "1.2.3", ".1.", "./", "/.", "1//2", "1./2",
		"1/.2", "1/2.", "1.-2", "1.+2", "1,5", "1e3", "1E3", "1.5e3", "0x10", "0b1", "1_000", "1/2_0", "inf", "NaN", "１", "1/２", "1.٣", "½", "−1",
		"\x00", "1\x00", "\x001", "1.\x80", "\xff", "-\xff", "1/\xc3", "\xed\xa0\x80",
	}
	for _, s := range texts {
		checkRefused(t, s, api.ErrText)
	}
}

// TestParseOfAllShortTexts: of every text of a few bytes the words of the document say whether it is one.
func TestParseOfAllShortTexts(t *testing.T) {
	grammar := regexp.MustCompile(`\A-?[0-9]+(/[0-9]*[1-9][0-9]*|\.[0-9]+)?\z`)
	texts := []string{""}
	for range 6 {
		var longer []string
		for _, s := range texts {
			for _, c := range []string{"0", "7", "-", "/", ".", " "} {
				longer = append(longer, c+s)
			}
		}
		for _, s := range longer {
			if grammar.MatchString(s) {
				checkParse(t, s)
			} else {
				checkRefused(t, s, api.ErrText)
			}
		}
		texts = longer
	}
}

// TestParseOfEachByte: no byte but a digit may stand in a number's text where a digit does, and only the two marks
// between digits.
func TestParseOfEachByte(t *testing.T) {
	for c := range 256 {
		one := string([]byte{byte(c)})
		digit := c >= '0' && c <= '9'
		cases := map[string]bool{
			one: digit, "4" + one: digit, one + "4": digit || c == '-', "4" + one + "4": digit || c == '/' || c == '.',
			"1/4" + one: digit, "1.4" + one: digit, "1/" + one + "4": digit, "1." + one + "4": digit, "-" + one: digit, "-" + one + "/7": digit,
		}
		for s, fine := range cases {
			if fine {
				checkParse(t, s)
			} else {
				checkRefused(t, s, api.ErrText)
			}
		}
	}
}

func TestParseOfTheLongestTexts(t *testing.T) {
	nines := strings.Repeat("9", api.MaxDigits)
	noughts := strings.Repeat("0", api.MaxDigits)
	half := api.MaxDigits / 2
	texts := []string{
		nines, "-" + nines[1:], noughts, "-" + noughts[1:], noughts[1:] + "7", nines[:half] + "/" + nines[half+1:], "1/" + nines[2:],
		"1/1" + noughts[3:], "1" + noughts[3:] + "/4", "0." + nines[2:], "-1." + noughts[4:] + "1", nines[2:] + ".5", noughts[5:] + "25.50",
		"-" + nines[:half] + "." + nines[half+2:], "3/" + noughts[3:] + "6",
	}
	for _, s := range texts {
		if len(s) != api.MaxDigits {
			t.Fatalf("%.20q.. has %d bytes", s, len(s))
		}
		checkParse(t, s)
		checkRefused(t, "0"+s, api.ErrBig)
		checkRefused(t, s+"0", api.ErrBig)
	}
	wrong := []string{
		noughts[2:] + "/0", "1/" + noughts[2:], nines[1:] + "x", nines[1:] + ".", nines[1:] + "/", "." + nines[1:], "/" + nines[1:], "+" + nines[1:],
		noughts[1:] + "\xff", nines[1:] + "-", strings.Repeat("-", api.MaxDigits), strings.Repeat("\x00", api.MaxDigits),
	}
	for _, s := range wrong {
		if len(s) != api.MaxDigits {
			t.Fatalf("%.20q.. has %d bytes", s, len(s))
		}
		checkRefused(t, s, api.ErrText)
		checkRefused(t, s+"0", api.ErrBig)
	}
	// Bytes are counted, not letters.
	checkRefused(t, strings.Repeat("１", api.MaxDigits/3), api.ErrText)
	checkRefused(t, strings.Repeat("１", api.MaxDigits/3+1), api.ErrBig)
}

// written: the number as the document says that Print and Smt write it, by big's own texts.
func written(x *big.Rat) (string, string) {
	num := new(big.Int).Abs(x.Num()).String()
	print, smt := num, num
	if !x.IsInt() {
		den := x.Denom().String()
		print, smt = num+"/"+den, "(/ "+num+" "+den+")"
	}
	if x.Sign() < 0 {
		print, smt = "-"+print, "(- "+smt+")"
	}
	return print, smt
}

func TestPrintAndSmt(t *testing.T) {
	for _, x := range numbers() {
		r := give(t, x)
		print, smt := written(x)
		if got := Print(r); got != print {
			t.Errorf("Print(%v) = %q", x, got)
		}
		if got := Smt(r); got != smt {
			t.Errorf("Smt(%v) = %q", x, got)
		}
	}
	examples := []struct {
		r          rat.Rat
		print, smt string
	}{
		{frac(t, -3, 2), "-3/2", "(- (/ 3 2))"}, {frac(t, 3, 2), "3/2", "(/ 3 2)"}, {rat.Int(5), "5", "5"}, {rat.Int(-5), "-5", "(- 5)"},
		{rat.Rat{}, "0", "0"}, {frac(t, 0, -7), "0", "0"}, {rat.Int(math.MinInt), "-9223372036854775808", "(- 9223372036854775808)"},
	}
	for _, c := range examples {
		if Print(c.r) != c.print || Smt(c.r) != c.smt {
			t.Errorf("%q, %q, not %q, %q", Print(c.r), Smt(c.r), c.print, c.smt)
		}
	}
}

// TestPrintOfLongNumbers: only texts that are read are bound by MaxDigits.
func TestPrintOfLongNumbers(t *testing.T) {
	x := new(big.Rat).SetFrac(new(big.Int).Neg(power(10, api.MaxDigits+500)), power(7, 25000))
	print, smt := written(x)
	r := give(t, x)
	if Print(r) != print || Smt(r) != smt {
		t.Error("a number with more than MaxDigits digits on either side of the bar")
	}
	checkRefused(t, print, api.ErrBig)
}

// decimal: what Decimal has to say of x with n digits, by big's own division.
func decimal(x *big.Rat, n int) string {
	cut := new(big.Int).Mul(new(big.Int).Abs(x.Num()), power(10, n))
	cut.Quo(cut, x.Denom())
	text := cut.String()
	if len(text) <= n {
		text = strings.Repeat("0", n+1-len(text)) + text
	}
	if n > 0 {
		text = text[:len(text)-n] + "." + text[len(text)-n:]
	}
	if x.Sign() < 0 && cut.Sign() != 0 {
		return "-" + text
	}
	return text
}

func TestDecimal(t *testing.T) {
	for _, x := range numbers() {
		r := give(t, x)
		for _, n := range []int{0, 1, 2, 3, 7, 19, 20, 199, 200, 201, MaxPlaces - 1, MaxPlaces} {
			if got, e := Decimal(r, n); e != api.OK || got != decimal(x, n) {
				t.Errorf("Decimal(%v, %d) = %q, %d", x, n, got, e)
			}
		}
	}
	examples := []struct {
		r    rat.Rat
		n    int
		want string
	}{
		{frac(t, -1, 3), 4, "-0.3333"}, {frac(t, -1, 300), 2, "0.00"}, {frac(t, -1, 300), 3, "-0.003"}, {frac(t, 7, 2), 0, "3"}, {frac(t, -7, 2), 0, "-3"},
		{frac(t, -1, 2), 0, "0"}, {frac(t, -999, 1000), 0, "0"}, {frac(t, -999, 1000), 1, "-0.9"}, {rat.Rat{}, 0, "0"}, {rat.Rat{}, 3, "0.000"},
		{frac(t, 1, 200), 2, "0.00"}, {rat.Int(-5), 2, "-5.00"}, {rat.Int(10), 0, "10"}, {rat.Int(100), 1, "100.0"}, {frac(t, 2, 3), 3, "0.666"},
	}
	for _, c := range examples {
		if got, e := Decimal(c.r, c.n); e != api.OK || got != c.want {
			t.Errorf("Decimal(%s, %d) = %q, %d, not %q", Print(c.r), c.n, got, e, c.want)
		}
	}
}

func TestDecimalAtMaxPlaces(t *testing.T) {
	just := new(big.Rat).SetFrac(big.NewInt(-1), power(10, MaxPlaces))
	beyond := new(big.Rat).SetFrac(big.NewInt(-9), power(10, MaxPlaces+1))
	noughts := strings.Repeat("0", MaxPlaces-1)
	if got, e := Decimal(give(t, just), MaxPlaces); e != api.OK || got != "-0."+noughts+"1" {
		t.Errorf("the last digit that is written: %q, %d", got, e)
	}
	if got, e := Decimal(give(t, beyond), MaxPlaces); e != api.OK || got != "0."+noughts+"0" {
		t.Errorf("the first digit that isn't: %q, %d", got, e)
	}
}

func TestDecimalRefuses(t *testing.T) {
	cases := []struct {
		n int
		e api.Errno
	}{
		{-1, api.ErrArg}, {-MaxPlaces, api.ErrArg}, {math.MinInt32, api.ErrArg}, {math.MinInt, api.ErrArg},
		{MaxPlaces + 1, api.ErrBig}, {api.MaxDigits, api.ErrBig}, {math.MaxInt32, api.ErrBig}, {math.MaxInt, api.ErrBig},
	}
	for _, c := range cases {
		for _, r := range []rat.Rat{{}, rat.Int(1), frac(t, -1, 3), give(t, new(big.Rat).SetInt(power(10, 300)))} {
			if got, e := Decimal(r, c.n); e != c.e || got != "" {
				t.Errorf("Decimal(%s, %d) = %q, %d", Print(r), c.n, got, e)
			}
		}
	}
}

// places: the least number of tens that makes x whole, by trying one behind the other; -1: none up to MaxPlaces does.
func places(x *big.Rat) int {
	tens := big.NewInt(1)
	for n := range MaxPlaces + 1 {
		if new(big.Int).Mod(new(big.Int).Mul(x.Num(), tens), x.Denom()).Sign() == 0 {
			return n
		}
		tens.Mul(tens, big.NewInt(10))
	}
	return -1
}

func checkPlaces(t *testing.T, x *big.Rat) {
	t.Helper()
	r := give(t, x)
	want := places(x)
	n, ok := Places(r)
	text, fine := Point(r)
	if want < 0 {
		if n != 0 || ok || text != "" || fine {
			t.Errorf("%.50s: Places %d, %v; Point %.50q, %v; not any", x, n, ok, text, fine)
		}
		return
	}
	if n != want || !ok || text != decimal(x, want) || !fine {
		t.Errorf("%.50s: Places %d, %v; Point %.50q, %v; not %d", x, n, ok, text, fine, want)
	}
}

func TestPlacesAndPoint(t *testing.T) {
	for _, x := range numbers() {
		checkPlaces(t, x)
	}
	if n, ok := Places(frac(t, 1, 8)); n != 3 || !ok {
		t.Errorf("Places(1/8) = %d, %v", n, ok)
	}
	if n, ok := Places(frac(t, 1, 3)); n != 0 || ok {
		t.Errorf("Places(1/3) = %d, %v", n, ok)
	}
	if n, ok := Places(rat.Rat{}); n != 0 || !ok {
		t.Errorf("Places(0) = %d, %v", n, ok)
	}
	for want, r := range map[string]rat.Rat{"0.125": frac(t, 1, 8), "-5": rat.Int(-5), "0": {}, "-0.2": frac(t, -1, 5), "1000": rat.Int(1000)} {
		if got, ok := Point(r); got != want || !ok {
			t.Errorf("Point(%s) = %q, %v", want, got, ok)
		}
	}
}

// TestPlacesAtTheirLimit: as many twos and fives below the bar as MaxPlaces, one fewer, one more, many more; and what
// the one has too many doesn't hang on how many the other has.
func TestPlacesAtTheirLimit(t *testing.T) {
	counts := []int{0, 1, 31, 32, 33, 999, 1000, 1001, 1002, 2000}
	for _, twos := range counts {
		for _, fives := range counts {
			den := new(big.Int).Mul(power(2, twos), power(5, fives))
			checkPlaces(t, new(big.Rat).SetFrac(big.NewInt(-7), den))
		}
	}
	for _, n := range []int{999, 1000} {
		den := new(big.Int).Mul(power(10, n), big.NewInt(3))
		checkPlaces(t, new(big.Rat).SetFrac(big.NewInt(1), den))
		checkPlaces(t, new(big.Rat).SetFrac(big.NewInt(3), den))
	}
	// More twos than a shift moves.
	checkPlaces(t, new(big.Rat).SetFrac(big.NewInt(1), power(2, api.MaxShift+40)))
}

func TestWhatIsPrintedIsReadBack(t *testing.T) {
	for _, x := range numbers() {
		r := give(t, x)
		if got, e := Parse(Print(r)); e != api.OK || !is(got, x) {
			t.Errorf("Parse(Print(%v)) = %s, %d", x, Print(got), e)
		}
		text, ok := Point(r)
		if got, e := Parse(text); ok && (e != api.OK || !is(got, x)) {
			t.Errorf("Parse(Point(%v)) = %s, %d", x, Print(got), e)
		}
	}
	// The longest texts that are read: one of the size, one of the sign and the bar besides.
	long := []*big.Rat{
		new(big.Rat).SetInt(power(10, api.MaxDigits-1)), new(big.Rat).SetInt(new(big.Int).Neg(power(10, api.MaxDigits-2))),
		new(big.Rat).SetFrac(new(big.Int).Neg(power(10, 9999)), new(big.Int).Add(power(10, 9997), big.NewInt(1))),
	}
	for _, x := range long {
		r := give(t, x)
		if len(Print(r)) != api.MaxDigits {
			t.Fatalf("%.20s.. has %d bytes", Print(r), len(Print(r)))
		}
		if got, e := Parse(Print(r)); e != api.OK || !is(got, x) {
			t.Errorf("%.20s.. is read back otherwise: %d", Print(r), e)
		}
	}
	for _, n := range []int{1, 999, MaxPlaces} {
		x := new(big.Rat).SetFrac(new(big.Int).Sub(power(3, 500), power(10, n+5)), power(10, n))
		text, ok := Point(give(t, x))
		if got, e := Parse(text); !ok || e != api.OK || !is(got, x) {
			t.Errorf("%.20s.. with %d places is read back otherwise: %d", text, n, e)
		}
	}
}

// TestNumbersStay: no call changes a number, and each answers the same again.
func TestNumbersStay(t *testing.T) {
	for _, x := range numbers() {
		r := give(t, x)
		tell := func() []string {
			decimal, _ := Decimal(r, 12)
			point, _ := Point(r)
			return []string{Print(r), Smt(r), decimal, point}
		}
		first := tell()
		if _, num, den := rat.Parts(r); len(num) > 0 {
			num[0], den[0] = 99, 99
		}
		if again := tell(); !slices.Equal(first, again) || !is(r, x) {
			t.Errorf("%v: %q, then %q", x, first, again)
		}
	}
}
