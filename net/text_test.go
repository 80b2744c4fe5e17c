package net

import (
	"fmt"
	"math"
	"regexp"
	"slices"
	"strconv"
	"strings"
	"testing"

	"attest/api"
	"attest/rat"
	"attest/rtext"
)

// The forms of lines, their words with one blank between.
var (
	netLine = regexp.MustCompile(`^net [0-9]{1,6}$`)
	rowLine = regexp.MustCompile(`^row( -?[0-9]+(/[0-9]*[1-9][0-9]*|\.[0-9]+)?)+$`)
	ofLine  = regexp.MustCompile(`^of( [0-9]{1,6})*$`)
)

// answer is what Parse should say: a network as showAll tells it, or where what is wrong.
type answer struct {
	net  string
	line int
	e    api.Errno
}

// judge reads a text line by line, by the forms of lines and by the last word that began one.
func judge(s string) answer {
	if len(s) > 1000000 {
		return answer{e: api.ErrBig}
	}
	n, last := Net{}, ""
	for i, line := range strings.Split(s, "\n") {
		line = strings.NewReplacer("\t", " ", "\r", " ").Replace(line)
		words := slices.DeleteFunc(strings.Split(line, " "), func(word string) bool { return word == "" })
		if len(words) == 0 || words[0][0] == '#' {
			continue
		}
		if !stands(&n, last, words) {
			return answer{line: i + 1, e: api.ErrText}
		}
		last = words[0]
	}
	if _, e := widthsOf(n); e != api.OK {
		return answer{e: e}
	}
	return answer{net: showAll(n)}
}

// stands: is a line right there, behind one that began with that word? If so, the network is told of it.
func stands(n *Net, last string, words []string) bool {
	line := strings.Join(words, " ")
	end := len(n.Layers) - 1
	switch {
	case last == "":
		if netLine.MatchString(line) {
			n.In, _ = strconv.Atoi(words[1])
			return true
		}
	case line == "affine" || line == "relu" || line == "max":
		n.Layers = append(n.Layers, Layer{Kind: map[string]int{"affine": 1, "relu": 2, "max": 3}[line]})
		return true
	case rowLine.MatchString(line) && (last == "affine" || last == "row"):
		var row []rat.Rat
		for _, word := range words[1:] {
			if len(word) > 20000 {
				return false
			}
			r, _ := rtext.Parse(word)
			row = append(row, r)
		}
		n.Layers[end].W = append(n.Layers[end].W, row[:len(row)-1])
		n.Layers[end].B = append(n.Layers[end].B, row[len(row)-1])
		return true
	case ofLine.MatchString(line) && (last == "max" || last == "of"):
		var group []int
		for _, word := range words[1:] {
			place, _ := strconv.Atoi(word)
			group = append(group, place)
		}
		n.Layers[end].Groups = append(n.Layers[end].Groups, group)
		return true
	}
	return false
}

// short: the beginning and the end of a text.
func short(s string) string {
	if len(s) > 160 {
		return s[:80] + " .. " + s[len(s)-80:]
	}
	return s
}

// reads: is a text read as it should be?
func reads(t *testing.T, s string) answer {
	t.Helper()
	want := judge(s)
	n, line, e := Parse(s)
	if line != want.line || e != want.e {
		t.Fatalf("Parse(%q): %d in line %d, not %d in line %d", short(s), e, line, want.e, want.line)
	}
	if e == api.OK && showAll(n) != want.net || e != api.OK && !isZero(n) {
		t.Fatalf("Parse(%q) = %s, %d", short(s), short(showAll(n)), e)
	}
	return want
}

// says: a text, and what is to be said of it.
type says struct {
	s    string
	line int
	e    api.Errno
}

func check(t *testing.T, list []says) {
	t.Helper()
	for _, x := range list {
		if _, line, e := Parse(x.s); line != x.line || e != x.e {
			t.Errorf("Parse(%q), %d bytes: %d in line %d, not %d in line %d", short(x.s), len(x.s), e, line, x.e, x.line)
		}
		reads(t, x.s)
	}
}

func TestPrint(t *testing.T) {
	mixed := Layer{Kind: 1, W: [][]rat.Rat{{frac(-1, 2), rat.Int(0)}, {rat.Int(7), frac(3, 4)}}, B: []rat.Rat{rat.Int(-5), frac(10, 4)}}
	for _, c := range []struct {
		n    Net
		want string
	}{
		{of(1), "net 1\n"}, {of(32), "net 32\n"}, {of(2, relu), "net 2\nrelu\n"}, {of(2, mixed), "net 2\naffine\nrow -1/2 0 -5\nrow 7 3/4 5/2\n"}, {of(3, groups([]int{2, 0, 2}, []int{1})), "net 3\nmax\nof 2 0 2\nof 1\n"},
		{of(2, mixed, relu, groups([]int{0, 1}), mixedOf(1)), "net 2\naffine\nrow -1/2 0 -5\nrow 7 3/4 5/2\nrelu\nmax\nof 0 1\naffine\nrow 1 2\n"}, {of(1, Layer{Kind: 2, W: [][]rat.Rat{ints(1)}, B: ints(1), Groups: [][]int{{0}}}), "net 1\nrelu\n"},
		{of(1, Layer{Kind: 3, W: [][]rat.Rat{ints(1)}, B: ints(1), Groups: [][]int{{0}}}), "net 1\nmax\nof 0\n"}, {of(1, Layer{Kind: 1, W: [][]rat.Rat{ints(1)}, B: ints(1), Groups: [][]int{{0}}}), "net 1\naffine\nrow 1 1\n"}, {of(32, groups([]int{31, 10, 9})), "net 32\nmax\nof 31 10 9\n"},
		{of(2, relu, relu), "net 2\nrelu\nrelu\n"}, {of(1, groups([]int{0}), groups([]int{0})), "net 1\nmax\nof 0\nmax\nof 0\n"},
	} {
		if got, e := Print(c.n); got != c.want || e != api.OK {
			t.Errorf("Print(%s) = %q, %d", showAll(c.n), got, e)
		}
	}
}

// mixedOf: a layer of one row, 1 and 2 behind it.
func mixedOf(width int) Layer {
	return Layer{Kind: 1, W: [][]rat.Rat{slices.Repeat(ints(1), width)}, B: ints(2)}
}

// TestPrintOfCases: the error of Widths and no text.
func TestPrintOfCases(t *testing.T) {
	for _, c := range cases() {
		text, e := Print(c.n)
		if e != c.e || e != api.OK && text != "" {
			t.Errorf("Print of %s: %q, %d, not %d", c.name, short(text), e, c.e)
		}
		if e != api.OK {
			continue
		}
		if n, line, e := Parse(text); !same(n, plain(c.n)) || line != 0 || e != api.OK {
			t.Errorf("Parse(Print) of %s: %s, %d in line %d", c.name, short(showAll(n)), e, line)
		}
	}
}

func TestParseOfPrint(t *testing.T) {
	s := some(21)
	for range 5000 {
		n := s.net()
		text, e := Print(n)
		if e != api.OK {
			t.Fatalf("Print(%s): %d", showAll(n), e)
		}
		got, line, e := Parse(text)
		if !same(got, plain(n)) || line != 0 || e != api.OK {
			t.Fatalf("Parse(%q) = %s, %d in line %d", text, showAll(got), e, line)
		}
		if again, e := Print(got); again != text || e != api.OK {
			t.Fatalf("Print(Parse(%q)) = %q, %d", text, again, e)
		}
		reads(t, text)
	}
}

// TestParseOfLooseTexts: blanks, tabs, carriage returns, lines that say nothing, with and without a last line end.
func TestParseOfLooseTexts(t *testing.T) {
	want := "in 2; kind 1 W[1 -1/2] B[3] groups; kind 2 W B[] groups; kind 3 W B[] groups[0 0][0]"
	for _, s := range []string{
		"net 2\naffine\nrow 1 -1/2 3\nrelu\nmax\nof 0 0\nof 0", "net 2\naffine\nrow 1 -1/2 3\nrelu\nmax\nof 0 0\nof 0\n", "\n\n  \n\t\r\nnet 2\n\n# a\naffine\n#\n\nrow 1 -1/2 3\n #b # c\nrelu\n\t#row\nmax\n\nof 0 0\n#\nof 0\n\n\n",
		"net\t2\r\naffine\r\nrow\t1\t-1/2\t3\r\nrelu\r\nmax\r\nof 0\t 0\r\nof  0\r\n", " net   2 \n affine \n\trow 1  -1/2\r3\t\nrelu\r\r\n  max\nof \t0\r0\nof\r0", "#net 3\nnet 2\n#relu\naffine\nrow 1.0 -0.50 3/1\nrelu\nmax\nof 00 000000\nof 0\n#", "net 000002\naffine\nrow 01 -2/4 03.000\nrelu\nmax\nof 0 0\nof 0",
		"# \x00\x80\xff(;\nnet 2\naffine\nrow 2/2 -3/6 6/2\n####\nrelu\nmax\n#\x0b\x0c\nof 0 0\nof 0\n", "#", "net 2",
	} {
		if n, _, e := Parse(s); strings.Contains(s, "relu\n") && (showAll(n) != want || e != api.OK) {
			t.Errorf("Parse(%q) = %s, %d", s, showAll(n), e)
		}
		reads(t, s)
	}
}

// TestParseOfNothing: a text that says nothing says a network of none.
func TestParseOfNothing(t *testing.T) {
	for _, s := range []string{"", "\n", " ", "\t", "\r", "\r\n\r\n", "#", "# net 1", "#\n#", "\n\n\n", " # relu\n\t#\n", "#net 1\n\r#affine", strings.Repeat("\n", 1000000), strings.Repeat(" ", 1000000), strings.Repeat("#", 1000000)} {
		if n, line, e := Parse(s); !isZero(n) || line != 0 || e != api.ErrForm {
			t.Errorf("Parse(%q) = %s, %d in line %d", short(s), showAll(n), e, line)
		}
		reads(t, s)
	}
}

// TestParseOfWords: a word too few or too many in a line, and words that there aren't.
func TestParseOfWords(t *testing.T) {
	var list []says
	for _, s := range []string{"net", "net 1 1", "net 1 #", "Net 1", "NET 1", "net1", "nets 1", "1", "net x", "net -1", "net +1", "net 1.0", "net 1/1", "net 1e1", "net 0x1", "net 1_0", "net １", "net \x00", "net 1\x0b", "net\x0b1", "net\x0c1", "net\xc2\x851", "net\xc2\xa01", "\ufeffnet 1", "net 1;", "(net 1)", "relu", "affine", "max", "row 1", "of 0", "row", "of", "what", "\x00", "\xff", "x#", "-#"} {
		list = append(list, says{s, 1, api.ErrText}, says{"\n# a\n\r\n" + s + "\nnet 1\n", 4, api.ErrText})
	}
	for _, s := range []string{"net 1", "net", "affine 1", "affine x", "affine #", "relu 1", "relu relu", "relu #", "max 1", "max 0", "Affine", "RELU", "maximum", "ax", "relus", "re lu", "what", "#x x"[1:], "(relu)", "relu;", "1", "0 0", "\x00", "\xff relu", "relu\x0b", "\x0brelu", "row", "row 1", "of", "of 0"} {
		list = append(list, says{"net 1\n" + s, 2, api.ErrText}, says{"net 1\nrelu\n\n#\n" + s + "\nrelu", 5, api.ErrText})
	}
	for _, s := range []string{"row", "row x", "row 1 x", "row x 1", "row 1 #", "row #", "row 1 1/0", "row .5 1", "row 5. 1", "row +1 1", "row 1e1 1", "row 1/2/3", "row --1", "row - 1", "row 1/-2", "row 1.5/2", "row 1 row 1", "row,1", "row1", "Row 1 1", "rows 1", "of 0", "of", "net 1", "1 1", "row 1\x0b1", "row \xff", "row １"} {
		list = append(list, says{"net 1\naffine\n" + s, 3, api.ErrText}, says{"net 1\naffine\nrow 1 1\n\n# a\n\n" + s + "\nwhat", 7, api.ErrText})
	}
	for _, s := range []string{"of x", "of 0 x", "of -1", "of -0", "of +0", "of 0.0", "of 0/1", "of 0x0", "of 0 #", "of #", "of 1234567", "of 0000000", "of 0 of 0", "of,0", "of0", "Of 0", "row 1", "row", "row 1 1", "net 1", "0", "of １", "of 1_0", "of \xff", "of 0\x0b"} {
		list = append(list, says{"net 1\nmax\n" + s, 3, api.ErrText}, says{"net 1\nmax\nof 0\n\t\n#\n" + s + "\nof", 6, api.ErrText})
	}
	check(t, list)
}

// TestParseOfLinesInWrongPlaces: a second net; a row or an of where no such layer stands ahead.
func TestParseOfLinesInWrongPlaces(t *testing.T) {
	check(t, []says{
		{"net 1\nnet 1", 2, api.ErrText}, {"net 1\nrelu\nnet 1", 3, api.ErrText}, {"net 1\naffine\nnet 1", 3, api.ErrText}, {"net 1\naffine\nrow 1 1\nnet 1", 4, api.ErrText}, {"net 1\nmax\nof 0\nnet 1", 4, api.ErrText},
		{"net 1\nrow 1 1", 2, api.ErrText}, {"net 1\nof 0", 2, api.ErrText}, {"net 1\nrelu\nrow 1 1", 3, api.ErrText}, {"net 1\nrelu\nof 0", 3, api.ErrText}, {"net 1\nmax\nrow 1 1", 3, api.ErrText}, {"net 1\naffine\nof 0", 3, api.ErrText},
		{"net 1\naffine\nrow 1 1\nof 0", 4, api.ErrText}, {"net 1\nmax\nof 0\nrow 1 1", 4, api.ErrText}, {"net 1\naffine\nrow 1 1\nrelu\nrow 1 1", 5, api.ErrText}, {"net 1\nmax\nof 0\nrelu\nof 0", 5, api.ErrText}, {"net 1\naffine\nrow 1 1\nmax\nrow 1 1", 5, api.ErrText},
		{"net 1\nmax\nof 0\naffine\nof 0", 5, api.ErrText}, {"net 1\naffine\nrow 1 1\nmax\nof 0\nrow 1 1", 6, api.ErrText}, {"row 1 1\nnet 1", 1, api.ErrText}, {"of 0\nnet 1", 1, api.ErrText}, {"relu\nnet 1", 1, api.ErrText}, {"what\nnet 1", 1, api.ErrText},
		{"net 1\naffine\nrow 1 1\naffine\nrow 1 1", 0, api.OK}, {"net 1\naffine\n#\n\nrow 1 1\n \n# b\nrow 2 2", 0, api.OK}, {"net 1\nmax\n\nof 0\n#\nof 0", 0, api.OK},
	})
}

// TestParseOfWhatIsNotInForm: texts whose lines are right, but not the network that they say; a wrong line goes ahead.
func TestParseOfWhatIsNotInForm(t *testing.T) {
	row, group := func(n int) string { return "row" + strings.Repeat(" 1", n+1) }, func(n int) string { return "of" + strings.Repeat(" 0", n) }
	lines := func(n int, line string) string { return strings.Repeat(line+"\n", n) }
	var list []says
	for s, want := range map[string]api.Errno{
		"net 0": api.ErrForm, "net 000000": api.ErrForm, "net 1": api.OK, "net 000001": api.OK, "net 32": api.OK, "net 33": api.ErrBig, "net 000033": api.ErrBig, "net 999999": api.ErrBig, "net 0\nrelu": api.ErrForm,
		"net 1\naffine": api.ErrForm, "net 1\nmax": api.ErrForm, "net 1\naffine\nrelu": api.ErrForm, "net 1\nmax\nrelu": api.ErrForm, "net 1\naffine\naffine\nrow 1 1": api.ErrForm, "net 1\nmax\nmax\nof 0": api.ErrForm, "net 1\naffine\nrow 1 1\nmax": api.ErrForm,
		"net 1\naffine\nrow 1": api.ErrForm, "net 1\naffine\nrow 1 1": api.OK, "net 1\naffine\nrow 1 1 1": api.ErrForm, "net 2\naffine\nrow 1 1 1\nrow 1 1": api.ErrForm, "net 1\nmax\nof": api.ErrForm, "net 1\nmax\nof 0\nof": api.ErrForm, "net 3\nmax\nof 2": api.OK, "net 3\nmax\nof 3": api.ErrForm,
		"net 3\nmax\nof 000002": api.OK, "net 3\nmax\nof 999999": api.ErrForm, "net 3\nmax\nof 2 1 2 0": api.OK, "net 0\naffine\nrow 1": api.ErrForm,
		"net 32\naffine\n" + lines(32, row(32)): api.OK, "net 32\naffine\n" + lines(33, row(32)): api.ErrBig, "net 32\naffine\n" + row(33): api.ErrBig, "net 32\naffine\n" + row(31): api.ErrForm, "net 31\naffine\n" + row(32): api.ErrForm, "net 1\naffine\n" + row(33): api.ErrBig,
		"net 32\nmax\n" + lines(32, group(32)): api.OK, "net 32\nmax\n" + lines(33, group(1)): api.ErrBig, "net 32\nmax\n" + group(33): api.ErrBig, "net 1\nmax\n" + lines(33, "of"): api.ErrBig, "net 2\n" + lines(16, "relu"): api.OK, "net 2\n" + lines(17, "relu"): api.ErrBig,
		"net 0\n" + lines(17, "relu"): api.ErrBig, "net 2\n" + lines(17, "affine"): api.ErrBig, "net 2\naffine\nrelu\nmax\n" + group(33): api.ErrBig, "net 0\nmax\nof 7\naffine\n" + row(40): api.ErrBig, "net 40\nmax\nof": api.ErrBig, "net 2\n" + lines(5000, "max\nof"): api.ErrBig,
	} {
		list = append(list, says{s, 0, want})
		s = strings.TrimSuffix(s, "\n")
		behind := 2 + strings.Count(s, "\n")
		for _, line := range []string{"what", "relu x", "net 1", "row", "of x"} {
			list = append(list, says{s + "\n" + line, behind, api.ErrText}, says{s + "\n\n" + line + "\nwhat\n", behind + 1, api.ErrText})
		}
	}
	check(t, list)
}

// TestParseTellsTheFirstWrongLine: where several are wrong, and where lines that say nothing stand ahead.
func TestParseTellsTheFirstWrongLine(t *testing.T) {
	good := []string{"net 2", "affine", "row 1 2 3", "row 4 5 6", "relu", "max", "of 0", "of 1 0", "relu"}
	for i := range good {
		for j := i; j < len(good); j++ {
			lines := slices.Clone(good)
			lines[i], lines[j] = lines[i]+" ?", "?"
			check(t, []says{{strings.Join(lines, "\n"), i + 1, api.ErrText}, {"\n#\n" + strings.Join(lines, "\n"), i + 3, api.ErrText}, {strings.Join(lines, "\n \n#?\n"), 3*i + 1, api.ErrText}, {strings.Join(lines, "\r\n\r\n") + "\r\n", 2*i + 1, api.ErrText}})
		}
	}
}

// TestParseOfLinesLeftOutAndDoubled: each line of a text left out, doubled, or exchanged for the next one.
func TestParseOfLinesLeftOutAndDoubled(t *testing.T) {
	good := []string{"net 2", "affine", "row 1 2 3", "row 4 5 6", "# a", "relu", "", "max", "of 0", "of 1 0", "affine", "row 1 1 1", "row 1/2 -3 0.5"}
	reads(t, strings.Join(good, "\n"))
	for i := range good {
		out := slices.Delete(slices.Clone(good), i, i+1)
		twice := slices.Insert(slices.Clone(good), i, good[i])
		turned := slices.Clone(good)
		turned[i], turned[(i+1)%len(good)] = turned[(i+1)%len(good)], turned[i]
		for _, lines := range [][]string{out, twice, turned, good[:i], good[i:]} {
			reads(t, strings.Join(lines, "\n"))
			reads(t, strings.Join(lines, "\r\n")+"\n")
		}
	}
}

// TestParseOfAllShortTexts: each text of at most four of these lines, alone and behind one that says what comes in.
func TestParseOfAllShortTexts(t *testing.T) {
	lines := []string{"net 1", "net 2", "affine", "row 1 2", "row 3 4 5", "row 7", "relu", "max", "of 0", "of 1 0", "of", "# x", "", "what"}
	texts, counts := []string{""}, map[api.Errno]int{}
	for range 4 {
		var longer []string
		for _, s := range texts {
			for _, line := range lines {
				longer = append(longer, s+line+"\n")
			}
		}
		for _, s := range longer {
			counts[reads(t, s).e]++
			counts[reads(t, "net 2\n"+s).e]++
		}
		texts = longer
	}
	if counts[api.OK] < 500 || counts[api.ErrText] < 500 || counts[api.ErrForm] < 500 || counts[api.ErrBig] != 0 {
		t.Errorf("%v", counts)
	}
}

// TestParseOfChangedTexts: texts of networks in which some bytes have been exchanged, left out or put in.
func TestParseOfChangedTexts(t *testing.T) {
	s, counts := some(23), map[api.Errno]int{}
	for range 10000 {
		text, _ := Print(s.net())
		for range 1 + s.below(3) {
			at := s.below(len(text))
			put := []string{" ", "\n", "\t", "\r", "#", "0", "1", "9", "/", ".", "-", "x", "net 1\n", "relu\n", "max\n", "row 1 1\n", "of 0\n", "affine\n", "\x0b", string([]byte{byte(s.below(256))})}[s.below(20)]
			switch s.below(3) {
			case 0:
				text = text[:at] + put + text[at:]
			case 1:
				text = text[:at] + text[at+1:]
			default:
				text = text[:at] + put + text[at+1:]
			}
			if text == "" {
				text = "net 1"
			}
		}
		counts[reads(t, text).e]++
	}
	if counts[api.OK] < 300 || counts[api.ErrText] < 3000 || counts[api.ErrForm] < 100 {
		t.Errorf("%v", counts)
	}
}

// TestParseOfEachByte: in a word, between words, ahead of a line and alone in one.
func TestParseOfEachByte(t *testing.T) {
	for i := range 256 {
		c := string([]byte{byte(i)})
		for _, s := range []string{c, "net 2" + c, c + "net 2", "net" + c + "2", "net 2\n" + c, "net 2\n" + c + "\nrelu", "net 2\nre" + c + "lu", "net 2\nrelu" + c, "net 2\nmax\nof 0" + c + "1", "net 2\nmax\nof 0 " + c + " 1", "net 1\naffine\nrow 1" + c + "1 1", "net 1\naffine\nrow" + c + "1 1", "net 1\naffine\nrow 1 1" + c, "#" + c + "\nnet 2", c + "#\nnet 2"} {
			reads(t, s)
		}
	}
}

// TestParseOfLongTexts: at the limit of bytes and above it, where nothing else is looked at.
func TestParseOfLongTexts(t *testing.T) {
	long := func(c string, n int) string { return strings.Repeat(c, n) }
	check(t, []says{
		{"net 1\n" + long(" ", 999994), 0, api.OK}, {"net 1\n" + long(" ", 999995), 0, api.ErrBig}, {"net 1\n#" + long("x", 999993), 0, api.OK}, {"net 1\n#" + long("x", 999994), 0, api.ErrBig}, {long("\n", 999995) + "net 1", 0, api.OK}, {long("\n", 999996) + "net 1", 0, api.ErrBig},
		{long("\n", 999996) + "what", 999997, api.ErrText}, {long("\n", 999997) + "what", 0, api.ErrBig}, {"what\n" + long(" ", 999996), 0, api.ErrBig}, {"what\n" + long(" ", 999995), 1, api.ErrText}, {long("x", 1000000), 1, api.ErrText}, {long("x", 1000001), 0, api.ErrBig},
		{"net 0" + long(" ", 999996), 0, api.ErrBig}, {"net 1\n" + long("relu\n", 199998), 0, api.ErrBig}, {"net 1\n" + long("relu\n", 199998) + "what", 200000, api.ErrText}, {"net 1\nmax\n" + long("of\n", 333330), 0, api.ErrBig}, {"net 1\nmax\nof" + long(" 0", 499993), 0, api.ErrBig},
		{"net 1\naffine\nrow" + long(" 1", 499992), 0, api.ErrBig}, {"net" + long(" 1", 499998), 1, api.ErrText}, {long(" ", 2000000), 0, api.ErrBig},
	})
}

// TestParseOfLongNumbers: of as many bytes as a number's text may have, and of one more.
func TestParseOfLongNumbers(t *testing.T) {
	nines, noughts := strings.Repeat("9", 20000), strings.Repeat("0", 20000)
	half := nines[:9999] + "/" + nines[:10000]
	check(t, []says{
		{"net 1\naffine\nrow " + nines + " 1", 0, api.OK}, {"net 1\naffine\nrow " + nines + "9 1", 3, api.ErrText}, {"net 1\naffine\nrow 1 " + nines, 0, api.OK}, {"net 1\naffine\nrow 1 9" + nines, 3, api.ErrText}, {"net 1\naffine\nrow -" + nines[1:] + " 1", 0, api.OK}, {"net 1\naffine\nrow -" + nines + " 1", 3, api.ErrText},
		{"net 1\naffine\nrow " + noughts + " 1", 0, api.OK}, {"net 1\naffine\nrow " + noughts + "0 1", 3, api.ErrText}, {"net 1\naffine\nrow 1." + noughts[2:] + " 1", 0, api.OK}, {"net 1\naffine\nrow 1." + noughts[1:] + " 1", 3, api.ErrText}, {"net 1\naffine\nrow 1/" + noughts[2:] + " 1", 3, api.ErrText},
		{"net 1\naffine\nrow " + half + " 1", 0, api.OK}, {"net 1\naffine\nrow " + half + "0 1", 3, api.ErrText}, {"net " + noughts + "1", 1, api.ErrText}, {"net 1\nmax\nof " + noughts, 3, api.ErrText},
	})
	n, _, _ := Parse("net 1\naffine\nrow -" + nines[1:] + " 1")
	if text, e := Print(n); text != "net 1\naffine\nrow -"+nines[1:]+" 1\n" || e != api.OK {
		t.Errorf("Print = %q, %d", short(text), e)
	}
}

// TestPrintOfGreatNumbers: Print names no limit of its own, so that the text of a great number is printed too.
func TestPrintOfGreatNumbers(t *testing.T) {
	nines := strings.Repeat("9", 20000)
	r, _ := rtext.Parse(nines)
	square := rat.Mul(r, r)
	n := of(1, Layer{Kind: 1, W: [][]rat.Rat{{square}}, B: []rat.Rat{square}})
	want := "net 1\naffine\nrow " + rtext.Print(square) + " " + rtext.Print(square) + "\n"
	if text, e := Print(n); text != want || e != api.OK {
		t.Errorf("Print = %q, %d", short(text), e)
	}
	wide := of(32, Layer{Kind: 1, W: [][]rat.Rat{slices.Repeat([]rat.Rat{square}, 32)}, B: ints(0)})
	if text, e := Print(wide); len(text) != len("net 32\naffine\nrow 0\n")+32*40001 || e != api.OK {
		t.Errorf("Print: %d bytes, %d", len(text), e)
	}
}

// TestParseOfCounts: noughts in front, six and seven digits.
func TestParseOfCounts(t *testing.T) {
	for _, digits := range []string{"0", "1", "2", "31", "32", "33", "100", "999999", "1000000", "000001", "0000001", "000032", "0000032", "000000", "0000000", "12345678901234567890", fmt.Sprint(math.MaxInt), fmt.Sprint(math.MinInt)} {
		for _, s := range []string{"net " + digits, "net 32\nmax\nof " + digits, "net 32\nmax\nof 1 " + digits + " 2", "net 32\nmax\nof 0\nof " + digits} {
			reads(t, s)
		}
	}
	if n, _, e := Parse("net 000032\nmax\nof 000031 7"); n.In != 32 || !slices.Equal(n.Layers[0].Groups[0], []int{31, 7}) || e != api.OK {
		t.Errorf("%s, %d", showAll(n), e)
	}
}

// TestExamplesOfTexts: those of the chapter.
func TestExamplesOfTexts(t *testing.T) {
	check(t, []says{
		{"net 2\naffine\nrow 1 -1/2 3\nrelu", 0, api.OK}, {"net 3\nmax\nof 0 2\nof 1", 0, api.OK}, {"net 3\nmax\nof 3", 0, api.ErrForm}, {"net 2\nrow 1", 2, api.ErrText}, {"affine", 1, api.ErrText},
		{"net 2\nnet 2", 2, api.ErrText}, {"", 0, api.ErrForm}, {"net 0", 0, api.ErrForm}, {"net 33", 0, api.ErrBig}, {"net 1\nwhat", 2, api.ErrText},
	})
}
