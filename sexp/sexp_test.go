package sexp

import (
	"regexp"
	"slices"
	"strings"
	"testing"

	"attest/api"
)

// same: are two of them the same in what has a meaning and in what hasn't, a list that is nil like an empty one?
func same(a, b S) bool {
	return a.Leaf == b.Leaf && a.Word == b.Word && sameRows(a.List, b.List)
}

func sameRows(a, b []S) bool {
	return slices.EqualFunc(a, b, same)
}

// plain: the same in new memory, what has no meaning left out.
func plain(l []S) []S {
	var out []S
	for _, s := range l {
		if s.Leaf {
			out = append(out, S{Leaf: true, Word: s.Word})
		} else {
			out = append(out, S{List: plain(s.List)})
		}
	}
	return out
}

// nest: so many lists within one another, the innermost one of these.
func nest(deep int, parts ...S) S {
	out := S{List: parts}
	for range deep - 1 {
		out = S{List: []S{out}}
	}
	return out
}

// endless: a list whose parts are that list itself, so many times.
func endless(times int) S {
	list := make([]S, times)
	for i := range list {
		list[i] = S{List: list}
	}
	return S{List: list}
}

// some: a row of numbers put together at haphazard, the same ones each time.
type some uint64

// below: the next number, from 0 to n - 1.
func (s *some) below(n int) int {
	*s = *s*6364136223846793005 + 1442695040888963407
	return int(uint64(*s)>>33) % n
}

// row: a row of words and lists in form, with Word and List set where they have no meaning.
func (s *some) row(deep int) []S {
	out := make([]S, s.below(5))
	for i := range out {
		if deep == 0 || s.below(2) == 0 {
			word := []string{"a", "bc", "+", "-1/2", "x0", "~", "!", "#", "\"", "a.b,c", "'", "*", ":", "<"}[s.below(14)]
			out[i] = S{Leaf: true, Word: word, List: [][]S{nil, {}, {{Leaf: true}}}[s.below(3)]}
		} else {
			out[i] = S{Word: []string{"", "a", "no word"}[s.below(3)], List: s.row(deep - 1)}
		}
	}
	return out
}

// answer is what Parse should say: the words and brackets that it reads, each with a blank behind it; or where what is wrong.
type answer struct {
	tokens string
	at     int
	e      api.Errno
}

var token = regexp.MustCompile("[ \t\n\r]|;[^\n]*|[()]|[!-'*-:<-~]+|(?s:.)")

// judge reads a text token by token, without a tree.
func judge(s string) answer {
	if len(s) > 1000000 {
		return answer{e: api.ErrBig}
	}
	var tokens strings.Builder
	nodes, deep := 0, 0
	for _, ends := range token.FindAllStringIndex(s, -1) {
		at, tok := ends[0], s[ends[0]:ends[1]]
		first := tok[0]
		if strings.IndexByte(" \t\n\r;", first) >= 0 {
			continue
		}
		if first < 33 || first > 126 || first == ')' && deep == 0 {
			return answer{at: at, e: api.ErrText}
		}
		if first == ')' {
			deep--
		} else if nodes++; nodes > 100000 || first == '(' && deep == 200 {
			return answer{at: at, e: api.ErrBig}
		} else if first == '(' {
			deep++
		}
		tokens.WriteString(tok + " ")
	}
	if deep > 0 {
		return answer{at: len(s), e: api.ErrText}
	}
	return answer{tokens: tokens.String()}
}

// tokens: the words and brackets of a row, each with a blank behind it.
func tokens(l []S) string {
	var out strings.Builder
	var tell func(l []S)
	tell = func(l []S) {
		for _, s := range l {
			if s.Leaf {
				out.WriteString(s.Word + " ")
				continue
			}
			out.WriteString("( ")
			tell(s.List)
			out.WriteString(") ")
		}
	}
	tell(l)
	return out.String()
}

// short: the beginning and the end of a text.
func short(s string) string {
	if len(s) > 80 {
		return s[:40] + " .. " + s[len(s)-40:]
	}
	return s
}

// reads: is a text read as it should be?
func reads(t *testing.T, s string) answer {
	t.Helper()
	want := judge(s)
	l, at, e := Parse(s)
	if got := tokens(l); got != want.tokens || at != want.at || e != want.e {
		t.Fatalf("Parse(%q) = %q, %d at %d; not %q, %d at %d", short(s), short(got), e, at, short(want.tokens), want.e, want.at)
	}
	if !sameRows(l, plain(l)) || e != api.OK && len(l) != 0 {
		t.Fatalf("Parse(%q) = %v, %d", short(s), l, e)
	}
	return want
}

func TestLimits(t *testing.T) {
	if api.MaxText != 1000000 || api.MaxWords != 100000 || api.MaxDepth != 200 {
		t.Error("other limits")
	}
}

func TestParse(t *testing.T) {
	a, b, c := Word("a"), Word("b"), Word("c")
	for _, x := range []struct {
		s    string
		want []S
	}{
		{"", nil}, {"a", []S{a}}, {"a b\tc", []S{a, b, c}}, {"()", []S{Row()}}, {"( )", []S{Row()}}, {"(;)\n)", []S{Row()}}, {"()()", []S{Row(), Row()}},
		{"(a)b", []S{Row(a), b}}, {"a(b)", []S{a, Row(b)}}, {"a(b)c", []S{a, Row(b), c}}, {"(a(b)c)", []S{Row(a, Row(b), c)}}, {"((()))", []S{Row(Row(Row()))}},
		{"a;b\nc", []S{a, c}}, {"a;b", []S{a}}, {"a ; (((\n b", []S{a, b}}, {"(a ; )\n b)", []S{Row(a, b)}}, {";\n;;;\n\n;a\ra\nc;", []S{c}},
		{"(a (b) ()) c", []S{Row(a, Row(b), Row()), c}}, {"\r\n(\r\na\r\n)\r\n", []S{Row(a)}}, {"ab\"c' -1/2 x0 <=", []S{Word("ab\"c'"), Word("-1/2"), Word("x0"), Word("<=")}},
		{"((a) (b c) (()) a)", []S{Row(Row(a), Row(b, c), Row(Row()), a)}}, {"a;\x00\x80\xff\xc3\n", []S{a}}, {";\x00", nil},
	} {
		l, at, e := Parse(x.s)
		if !sameRows(l, x.want) || at != 0 || e != api.OK {
			t.Errorf("Parse(%q) = %v, %d at %d", x.s, l, e, at)
		}
	}
}

func TestParseOfNothing(t *testing.T) {
	for _, s := range []string{
		"", " ", "\t", "\n", "\r", " \t\r\n\n \r", strings.Repeat(" ", 5000), ";", "; a remark", "; a remark\n", ";)", ";(\n;(", ";\r(", " ; a\n\t; b \r\n ", ";;;;", "\n;",
	} {
		if l, at, e := Parse(s); len(l) != 0 || at != 0 || e != api.OK {
			t.Errorf("Parse(%q) = %v, %d at %d", s, l, e, at)
		}
	}
}

// TestParseOfRemarks: with and without a line end, behind words and within lists; only a line end ends one.
func TestParseOfRemarks(t *testing.T) {
	for _, s := range []string{"a ; b", "a ; b\n", "a;b\n", "a;", "a;\n", "a;b;c\n", "a ; b\r", "a ; b\r\n", ";b\na", ";b\r\na", "a;\x0b\x0c\x85"} {
		if l, at, e := Parse(s); !sameRows(l, []S{Word("a")}) || at != 0 || e != api.OK {
			t.Errorf("Parse(%q) = %v, %d at %d", s, l, e, at)
		}
	}
	for s, want := range map[string]int{"(a ; )": 6, "(;\n": 3, "(a;)\r)": 6, ";\n)": 2, ";\r\n)": 3, "a ;\n;\n\x00": 6} {
		if l, at, e := Parse(s); len(l) != 0 || at != want || e != api.ErrText {
			t.Errorf("Parse(%q) = %v, %d at %d", s, l, e, at)
		}
	}
}

// TestParseOfEachByte: alone, behind a word, ahead of one, within a list and within a remark.
func TestParseOfEachByte(t *testing.T) {
	for i := range 256 {
		c := string([]byte{byte(i)})
		for _, s := range []string{c, "a" + c, c + "a", "a" + c + "b", "a " + c, "(" + c + ")", "(a" + c + "b)", "(a" + c, ";" + c + "\na", ";" + c, "()" + c, c + c} {
			reads(t, s)
		}
		ofWords := i > 32 && i < 127 && c != "(" && c != ")" && c != ";"
		blank := i == 9 || i == 10 || i == 13 || i == 32
		l, at, e := Parse("a" + c + "b")
		switch {
		case ofWords && (!sameRows(l, []S{Word("a" + c + "b")}) || at != 0 || e != api.OK):
			t.Errorf("byte %d in a word: %v, %d at %d", i, l, e, at)
		case blank && (!sameRows(l, []S{Word("a"), Word("b")}) || at != 0 || e != api.OK):
			t.Errorf("byte %d between words: %v, %d at %d", i, l, e, at)
		case !ofWords && !blank && c != "(" && c != ";" && (len(l) != 0 || at != 1 || e != api.ErrText):
			t.Errorf("byte %d: %v, %d at %d", i, l, e, at)
		}
		if l, at, e := Parse(c); ofWords && (!sameRows(l, []S{Word(c)}) || at != 0 || e != api.OK) {
			t.Errorf("the word %q: %v, %d at %d", c, l, e, at)
		}
	}
}

func TestParseOfWrongTexts(t *testing.T) {
	for _, x := range []struct {
		s  string
		at int
	}{
		{")", 0}, {"a)", 1}, {"a )", 2}, {"())", 2}, {"(a))(", 3}, {"(", 1}, {"(a", 2}, {"(a ", 3}, {"((a)", 4}, {"(()", 3}, {"a (b ; c", 8}, {"(\n\n", 3},
		{"\x00", 0}, {"\x7f", 0}, {"\x80", 0}, {"\xc8", 0}, {"\xff", 0}, {"a\x00", 1}, {"a\x7f", 1}, {"a\x80", 1}, {"a\xc8", 1}, {"a\xff", 1}, {"(a \x00)", 3}, {"(\xc8)", 1},
		{"(a \xff", 3}, {"\xc3\xa9", 0}, {"a\xc3\xa9", 1}, {"a\x0b", 1}, {"\x0c", 0}, {"\x1f", 0}, {"(\x00", 1}, {")\x00", 0}, {"\x00)", 0}, {"a ) b )", 2}, {"(a) \x80 )", 4}, {")(", 0},
	} {
		if l, at, e := Parse(x.s); len(l) != 0 || at != x.at || e != api.ErrText {
			t.Errorf("Parse(%q) = %v, %d at %d, not at %d", x.s, l, e, at, x.at)
		}
		reads(t, x.s)
	}
}

// TestParseOfAllShortTexts: each text of at most six bytes of these.
func TestParseOfAllShortTexts(t *testing.T) {
	texts, counts := []string{""}, map[api.Errno]int{}
	for range 6 {
		var longer []string
		for _, s := range texts {
			counts[reads(t, s).e]++
			for _, c := range []string{"(", ")", "a", ";", "\n", " ", "\xc8"} {
				longer = append(longer, s+c)
			}
		}
		texts = longer
	}
	for _, s := range texts {
		counts[reads(t, s).e]++
	}
	if counts[api.OK] < 1000 || counts[api.ErrText] < 1000 || counts[api.ErrBig] != 0 {
		t.Errorf("%v", counts)
	}
}

// TestParseOfLongerTexts: of bytes at haphazard, brackets often among them.
func TestParseOfLongerTexts(t *testing.T) {
	s := some(5)
	for range 3000 {
		text := ""
		for range s.below(120) {
			text += []string{"(", "(", ")", ")", "a", "b", "z1", " ", " ", "\n", "\t", "\r", ";", "+"}[s.below(14)]
			if s.below(300) == 0 {
				text += string([]byte{byte(s.below(256))})
			}
		}
		reads(t, text)
	}
}

// wrong: a text, and what is to be said of it.
type wrong struct {
	s  string
	at int
	e  api.Errno
}

func says(t *testing.T, list []wrong) {
	t.Helper()
	for _, x := range list {
		if _, at, e := Parse(x.s); at != x.at || e != x.e {
			t.Errorf("Parse(%q), %d bytes: %d at %d, not %d at %d", short(x.s), len(x.s), e, at, x.e, x.at)
		}
		reads(t, x.s)
	}
}

func TestParseOfLongTexts(t *testing.T) {
	long := func(c string, n int) string { return strings.Repeat(c, n) }
	says(t, []wrong{
		{long("a", 1000000), 0, api.OK}, {long("a", 1000001), 0, api.ErrBig}, {long(" ", 1000000), 0, api.OK}, {long(" ", 1000001), 0, api.ErrBig},
		{";" + long(")", 999999), 0, api.OK}, {";" + long(")", 1000000), 0, api.ErrBig}, {long("\n", 999999) + ")", 999999, api.ErrText},
		{")" + long("a", 1000000), 0, api.ErrBig}, {long(" ", 1000000) + ")", 0, api.ErrBig}, {"a\x00" + long(" ", 999999), 0, api.ErrBig},
		{long(" ", 999999) + "(", 1000000, api.ErrText}, {long("a", 999999) + "\x00", 999999, api.ErrText}, {long("()", 500001), 0, api.ErrBig}, {long("(", 1000000), 200, api.ErrBig},
		{long(")", 1000000), 0, api.ErrText}, {long("a", 3000000), 0, api.ErrBig},
	})
	if l, _, e := Parse(long("a", 1000000)); len(l) != 1 || l[0].Word != long("a", 1000000) || e != api.OK {
		t.Errorf("%d words, %d", len(l), e)
	}
}

func TestParseOfManyNodes(t *testing.T) {
	words, lists := strings.Repeat("a ", 100000), strings.Repeat("()", 100000)
	says(t, []wrong{
		{words, 0, api.OK}, {words + "b", 200000, api.ErrBig}, {words + "()", 200000, api.ErrBig}, {words + "(", 200000, api.ErrBig}, {words + "\x00", 200000, api.ErrText},
		{words + ")", 200000, api.ErrText}, {words + " ; and no more", 0, api.OK}, {words + "bcd e", 200000, api.ErrBig}, {words + "b\x00", 200000, api.ErrBig}, {"\n" + words + "b)", 200001, api.ErrBig},
		{lists, 0, api.OK}, {lists + "()", 200000, api.ErrBig}, {lists + "a", 200000, api.ErrBig}, {lists + "(", 200000, api.ErrBig}, {lists + ")", 200000, api.ErrText},
		{"(" + words + ")", 199999, api.ErrBig}, {"(" + words[2:] + ")", 0, api.OK}, {"(" + words, 199999, api.ErrBig}, {"(" + words[2:], 199999, api.ErrText},
		{"(" + lists + ")", 199999, api.ErrBig}, {"(" + lists[2:] + ")", 0, api.OK}, {strings.Repeat("(a)", 50000), 0, api.OK}, {strings.Repeat("(a)", 50001), 150000, api.ErrBig},
		{strings.Repeat("(a)", 49999) + "a()(a)", 150000, api.ErrBig}, {strings.Repeat("a ", 50000) + "\x00" + words, 100000, api.ErrText}, {strings.Repeat("(", 201) + words, 200, api.ErrBig},
		{words + strings.Repeat("(", 201), 200000, api.ErrBig}, {words[:2*99900] + strings.Repeat("(", 101), 199900, api.ErrBig},
	})
	for _, s := range []string{words, lists} {
		if l, _, e := Parse(s); len(l) != 100000 || e != api.OK {
			t.Errorf("%d words or lists, %d", len(l), e)
		}
	}
}

func TestParseOfDeepLists(t *testing.T) {
	deep := func(n int, inner string) string { return strings.Repeat("(", n) + inner + strings.Repeat(")", n) }
	says(t, []wrong{
		{deep(200, ""), 0, api.OK}, {deep(201, ""), 200, api.ErrBig}, {deep(200, "a b"), 0, api.OK}, {deep(200, "()"), 200, api.ErrBig}, {deep(200, "a ()"), 202, api.ErrBig},
		{deep(200, "") + deep(200, "a"), 0, api.OK}, {deep(200, "") + deep(201, ""), 600, api.ErrBig}, {deep(199, "()()(a)"), 0, api.OK}, {deep(199, "()((a))"), 202, api.ErrBig},
		{strings.Repeat("(", 200), 200, api.ErrText}, {strings.Repeat("(", 200) + ";(", 202, api.ErrText}, {strings.Repeat("(", 200) + "a\x00(", 201, api.ErrText},
		{strings.Repeat("(", 5000), 200, api.ErrBig}, {deep(200, "") + ")(", 400, api.ErrText}, {strings.Repeat("( ", 201), 400, api.ErrBig},
	})
	if l, _, e := Parse(deep(200, "a")); !sameRows(l, []S{nest(200, Word("a"))}) || e != api.OK {
		t.Errorf("two hundred lists: %d", e)
	}
}

// TestTheFirstWrongPlaceIsTold: of several.
func TestTheFirstWrongPlaceIsTold(t *testing.T) {
	parts := []wrong{{"\x00", 0, api.ErrText}, {")", 0, api.ErrText}, {strings.Repeat("(", 201), 200, api.ErrBig}, {strings.Repeat("a ", 100001), 200000, api.ErrBig}}
	for _, first := range parts {
		for _, second := range append(parts, wrong{s: "("}) {
			says(t, []wrong{{first.s + second.s, first.at, first.e}, {"b(c)\n" + first.s + " " + second.s, min(first.at, 199994) + 5, first.e}})
		}
	}
}

// judged is a row, and what Check says of it.
type judged struct {
	name string
	l    []S
	want api.Errno
}

// forms: rows whose words are words or aren't, and fields without meaning.
func forms() []judged {
	a := Word("a")
	out := []judged{
		{"nothing", nil, api.OK}, {"an empty row", []S{}, api.OK}, {"an empty list", []S{{}}, api.OK}, {"a word", []S{a}, api.OK}, {"two words", []S{a, a}, api.OK},
		{"a Leaf with an empty Word", []S{{Leaf: true}}, api.ErrForm}, {"an empty Word within a list", []S{a, Row(a, Word("")), a}, api.ErrForm},
		{"a Leaf with a List", []S{{Leaf: true, Word: "a", List: []S{a}}}, api.OK}, {"a Leaf with a wrong List", []S{{Leaf: true, Word: "a", List: []S{Word("")}}}, api.OK},
		{"a Leaf with a List of too many", []S{{Leaf: true, Word: "a", List: make([]S, 100001)}}, api.OK}, {"a Leaf with an endless List", []S{{Leaf: true, Word: "a", List: []S{endless(2)}}}, api.OK},
		{"a wrong Leaf with an endless List", []S{{Leaf: true, Word: "(", List: []S{endless(2)}}}, api.ErrForm}, {"an empty Leaf with a List", []S{{Leaf: true, List: []S{a}}}, api.ErrForm},
		{"a list with a Word", []S{{Word: "a", List: []S{a}}}, api.OK}, {"an empty list with a wrong Word", []S{{Word: "no word"}}, api.OK}, {"a list with a Word with 0", []S{{Word: "\x00", List: []S{a}}}, api.OK},
		{"a wrong word deep inside", []S{a, nest(199, a, nest(1, a, Word("a b")), a), a}, api.ErrForm}, {"a long word", []S{Word(strings.Repeat("a", 2000000))}, api.OK},
		{"a long word with a blank at the end", []S{Word(strings.Repeat("a", 2000000) + " ")}, api.ErrForm},
	}
	for i := range 256 {
		want := api.ErrForm
		if i > 32 && i < 127 && i != '(' && i != ')' && i != ';' {
			want = api.OK
		}
		c := string([]byte{byte(i)})
		for _, word := range []string{c, "a" + c, c + "a", "a" + c + "b"} {
			out = append(out, judged{"the word " + word, []S{Word(word)}, want}, judged{"in lists, the word " + word, []S{a, Row(Row(), Row(a, Word(word), a))}, want})
		}
	}
	return out
}

// edges: rows about as great as they may be, and wrong ones that are too great as well.
func edges() []judged {
	a, bad := Word("a"), Word("a b")
	words := func(n int) []S { return slices.Repeat([]S{a}, n) }
	return []judged{
		{"100000 words", words(100000), api.OK}, {"100001 words", words(100001), api.ErrBig}, {"a million words", words(1000000), api.ErrBig},
		{"100000 lists", make([]S, 100000), api.OK}, {"100001 lists", make([]S, 100001), api.ErrBig}, {"99999 words in a list", []S{{List: words(99999)}}, api.OK},
		{"100000 words in a list", []S{{List: words(100000)}}, api.ErrBig}, {"50000 words and 49998", []S{{List: words(50000)}, {List: words(49998)}}, api.OK},
		{"50000 words and 49999", []S{{List: words(50000)}, {List: words(49999)}}, api.ErrBig}, {"50000 lists of a word", slices.Repeat([]S{nest(1, a)}, 50000), api.OK},
		{"50001 lists of a word", slices.Repeat([]S{nest(1, a)}, 50001), api.ErrBig}, {"50000 lists of a word and a word", append(slices.Repeat([]S{nest(1, a)}, 50000), a), api.ErrBig},
		{"100000 words, the last one wrong", append(words(99999), bad), api.ErrForm}, {"100001 words, the last one wrong", append(words(100000), bad), api.ErrBig},
		{"100001 words, the first one wrong", append([]S{bad}, words(100000)...), api.ErrBig}, {"a wrong word and a list of too many", []S{bad, {List: words(99999)}}, api.ErrBig},
		{"a list of too many and a wrong word", []S{{List: words(99999)}, bad}, api.ErrBig}, {"wrong words alone", slices.Repeat([]S{{Leaf: true}}, 100001), api.ErrBig},
		{"200 lists within one another", []S{nest(200)}, api.OK}, {"201", []S{nest(201)}, api.ErrBig}, {"200 and a word", []S{nest(200, a)}, api.OK}, {"200 and a wrong word", []S{nest(200, bad)}, api.ErrForm},
		{"201 and a word", []S{nest(201, a)}, api.ErrBig}, {"201 and a wrong word", []S{nest(201, bad)}, api.ErrBig}, {"a wrong word, then 201", []S{bad, nest(201, a)}, api.ErrBig},
		{"201, then a wrong word", []S{nest(201, a), bad}, api.ErrBig}, {"200, again and again", []S{a, nest(200), nest(200, a, a), nest(199, nest(1), nest(1, a))}, api.OK},
		{"200, at last 201", []S{a, nest(200), nest(200, a, nest(1))}, api.ErrBig}, {"300000 lists within one another", []S{nest(300000)}, api.ErrBig},
		{"an endless list", []S{endless(1)}, api.ErrBig}, {"an endless list of two", []S{endless(2)}, api.ErrBig}, {"an endless list of many", []S{endless(70000)}, api.ErrBig},
		{"a wrong word and an endless list", []S{bad, endless(1)}, api.ErrBig}, {"a wrong word within 200", []S{nest(100, nest(100, bad, a), a)}, api.ErrForm},
	}
}

func cases() []judged {
	return slices.Concat(forms(), edges())
}

func TestCheck(t *testing.T) {
	for _, c := range cases() {
		if got := Check(c.l); got != c.want {
			t.Errorf("Check of %s: %d, not %d", c.name, got, c.want)
		}
	}
}

// printed: the text of one in form.
func printed(s S) string {
	if s.Leaf {
		return s.Word
	}
	parts := make([]string, len(s.List))
	for i, part := range s.List {
		parts[i] = printed(part)
	}
	return "(" + strings.Join(parts, " ") + ")"
}

func lines(l []S) string {
	out := make([]string, len(l))
	for i, s := range l {
		out[i] = printed(s) + "\n"
	}
	return strings.Join(out, "")
}

// TestPrintOfCases: the error of Check and no text, or a line for each.
func TestPrintOfCases(t *testing.T) {
	for _, c := range cases() {
		want := ""
		if c.want == api.OK {
			want = lines(c.l)
		}
		if got, e := Print(c.l); got != want || e != c.want {
			t.Errorf("Print of %s: %q, %d", c.name, short(got), e)
		}
	}
}

func TestPrint(t *testing.T) {
	a, b, c := Word("a"), Word("b"), Word("c")
	for _, x := range []struct {
		l    []S
		want string
	}{
		{nil, ""}, {[]S{}, ""}, {[]S{a}, "a\n"}, {[]S{a, b}, "a\nb\n"}, {[]S{{}}, "()\n"}, {[]S{Row(), Row()}, "()\n()\n"}, {[]S{Row(a)}, "(a)\n"},
		{[]S{Row(a, b, c)}, "(a b c)\n"}, {[]S{Row(Row())}, "(())\n"}, {[]S{Row(Row(), Row())}, "(() ())\n"}, {[]S{Row(a, Row(b)), c}, "(a (b))\nc\n"},
		{[]S{Row(Row(a), b, Row(Row(c)))}, "((a) b ((c)))\n"}, {[]S{{Leaf: true, Word: "-1/2", List: []S{a}}, {Word: "no word", List: []S{b}}}, "-1/2\n(b)\n"},
		{[]S{nest(200, a)}, strings.Repeat("(", 200) + "a" + strings.Repeat(")", 200) + "\n"},
	} {
		if got, e := Print(x.l); got != x.want || e != api.OK {
			t.Errorf("Print(%v) = %q, %d", x.l, got, e)
		}
	}
}

// TestPrintOfLongTexts: a text that Parse wouldn't take is printed.
func TestPrintOfLongTexts(t *testing.T) {
	long := strings.Repeat("a", 1000001)
	if got, e := Print([]S{Word(long), Word("b")}); got != long+"\nb\n" || e != api.OK {
		t.Errorf("%d bytes, %d", len(got), e)
	}
}

// TestParseOfPrint: what is printed is read again, what has no meaning left out.
func TestParseOfPrint(t *testing.T) {
	rows, s := [][]S{nil, {{}}, slices.Repeat([]S{Word("a")}, 100000), make([]S, 100000), {nest(200, Word("a"))}, {nest(200), nest(200)}, {Word(strings.Repeat("~", 999999))}}, some(7)
	for range 2000 {
		rows = append(rows, s.row(s.below(6)))
	}
	for _, l := range rows {
		text, e := Print(l)
		if text != lines(l) || e != api.OK {
			t.Fatalf("Print(%v) = %q, %d", l, text, e)
		}
		if got, at, e := Parse(text); !sameRows(got, plain(l)) || at != 0 || e != api.OK {
			t.Fatalf("Parse(%q) = %d at %d", short(text), e, at)
		}
	}
}

func TestWord(t *testing.T) {
	for _, s := range []string{"", "a", "abc", "a b", "(", "\x00", ";", strings.Repeat("x", 2000000)} {
		if got := Word(s); !same(got, S{Leaf: true, Word: s}) {
			t.Errorf("Word(%q) = %v", short(s), got)
		}
	}
}

func TestRow(t *testing.T) {
	a, b := Word("a"), Word("b")
	for _, l := range [][]S{nil, {}, {a}, {a, b}, {a, b, a, a}, {{}}, {{}, {}}, {Row(a), b, Row()}, {Word("")}, {Word("a b"), Word("(")}, {nest(300, a)}, slices.Repeat([]S{a}, 200000)} {
		if got := Row(l...); got.Leaf || got.Word != "" || !sameRows(got.List, l) {
			t.Errorf("Row of %d: %v, %d", len(l), got.Leaf, len(got.List))
		}
	}
	if got := Row(); !same(got, S{}) {
		t.Errorf("Row() = %v", got)
	}
	if got := Row(a, Row(b, a), Row()); !same(got, S{List: []S{a, {List: []S{b, a}}, {}}}) {
		t.Errorf("Row = %v", got)
	}
}

// TestRowLeavesOutWhatHasNoMeaning: at any depth.
func TestRowLeavesOutWhatHasNoMeaning(t *testing.T) {
	given := []S{{Leaf: true, Word: "a", List: []S{{}}}, {Word: "b", List: []S{{Word: "c", List: []S{{Leaf: true, List: []S{{}}}}}}}}
	if got := Row(given...); !same(got, S{List: []S{{Leaf: true, Word: "a"}, {List: []S{{List: []S{{Leaf: true}}}}}}}) {
		t.Errorf("Row = %v", got)
	}
	s := some(13)
	for range 500 {
		l := s.row(5)
		if got := Row(l...); !same(got, S{List: plain(l)}) {
			t.Fatalf("Row(%v) = %v", l, got)
		}
	}
}

// TestRowOfDeepOnes: lists within one another, as many as the document's bounds allow; and a list that holds itself, which
// is beyond them: Row ends, and what it answers is too great for Check too.
func TestRowOfDeepOnes(t *testing.T) {
	got := Row(nest(60000, Word("a")))
	for deep := range 60000 {
		if got.Leaf || len(got.List) != 1 {
			t.Fatalf("%d parts, %d lists deep", len(got.List), deep)
		}
		got = got.List[0]
	}
	if !same(got, nest(1, Word("a"))) {
		t.Errorf("the innermost list is %v", got)
	}
	if e := Check([]S{Row(endless(1))}); e != api.ErrBig {
		t.Errorf("an endless list: %d", e)
	}
}

// roomy: the same row, each list with room behind it, filled with what isn't of the row.
func roomy(l []S) []S {
	out := make([]S, 0, len(l)+3)
	for _, s := range l {
		s.List = roomy(s.List)
		out = append(out, s)
	}
	for i := len(l); i < len(l)+3; i++ {
		out[: i+1 : i+1][i] = S{Word: "spare", List: []S{Word("spare")}}
	}
	return out
}

// untouched: are the row and the room behind its lists as roomy made them of l?
func untouched(got, l []S) bool {
	if len(got) != len(l) {
		return false
	}
	for _, spare := range got[len(l) : len(l)+3] {
		if !same(spare, S{Word: "spare", List: []S{Word("spare")}}) {
			return false
		}
	}
	for i, s := range l {
		if got[i].Leaf != s.Leaf || got[i].Word != s.Word || !untouched(got[i].List, s.List) {
			return false
		}
	}
	return true
}

// spoil writes into all memory of a row.
func spoil(l []S) {
	for _, s := range l {
		spoil(s.List)
	}
	l = l[:cap(l)]
	for i := range l {
		l[i] = S{Leaf: true, Word: "spoilt", List: []S{{}}}
	}
}

func TestNothingIsChanged(t *testing.T) {
	s := some(17)
	for range 500 {
		l := s.row(5)
		given := roomy(l)
		Check(given)
		Print(given)
		spoil(Row(given...).List)
		if !untouched(given, l) {
			t.Fatalf("%v is changed: %v", l, given)
		}
	}
}

// TestAnswersAreNew: what is done to an answer is nothing to what was handed in, nor to another answer; nor the other way.
func TestAnswersAreNew(t *testing.T) {
	s := some(19)
	for range 500 {
		l := plain(s.row(5))
		text, _ := Print(l)
		first, _, _ := Parse(text)
		second, _, _ := Parse(text)
		spoil(second)
		third, _, _ := Parse(text)
		if !sameRows(first, l) || !sameRows(third, l) {
			t.Fatalf("the lists of Parse(%q) are shared", text)
		}
		row, other := Row(first...), Row(first...)
		spoil(first)
		spoil(other.List)
		if !sameRows(row.List, l) || !sameRows(third, l) {
			t.Fatalf("the lists of Row(%v) are shared", l)
		}
	}
}

func TestRowTakesNoPartOver(t *testing.T) {
	parts := []S{Word("a"), {List: []S{Word("b"), {List: []S{Word("c")}}}}}
	want := S{List: []S{Word("a"), {List: []S{Word("b"), {List: []S{Word("c")}}}}}}
	got := Row(parts...)
	parts[1].List[1].List[0] = Word("z")
	parts[1].List[0] = Word("z")
	parts[0] = Word("z")
	if !same(got, want) {
		t.Errorf("Row = %v", got)
	}
}

// TestListsOfAnAnswerAreApart: each may be written and made longer without another one's being changed.
func TestListsOfAnAnswerAreApart(t *testing.T) {
	part := Row(Word("a"), Row(Word("b")))
	row := Row(part, part, part)
	read, _, _ := Parse("((a (b)) (a (b)) (a (b)))")
	for _, l := range [][]S{row.List, read[0].List} {
		l[0].List = append(l[0].List, Word("c"))
		spoil(l[0].List)
		if !sameRows(l[1:], []S{part, part}) || !same(part, Row(Word("a"), Row(Word("b")))) {
			t.Errorf("a part of %v is another one's", l)
		}
	}
	for n := range 20 {
		text := "(" + strings.Repeat("(a) ", n) + ")" + strings.Repeat("(a) ", n)
		l, _, _ := Parse(text)
		all := append(slices.Clone(l[0].List), l...)
		for i := range all {
			all[i].List = append(all[i].List, S{Leaf: true, Word: strings.Repeat("b", i)})
		}
		for i, s := range all {
			if s.List[len(s.List)-1].Word != strings.Repeat("b", i) {
				t.Fatalf("list %d of %q has another one's part", i, text)
			}
		}
	}
}

// TestExamples: those of the chapter.
func TestExamples(t *testing.T) {
	a, b := Word("a"), Word("b")
	if l, at, e := Parse("(a (b) ()) c ; d\n"); !sameRows(l, []S{Row(a, Row(b), Row()), Word("c")}) || at != 0 || e != api.OK {
		t.Errorf("%v, %d at %d", l, e, at)
	}
	says(t, []wrong{
		{"", 0, api.OK}, {"(a", 2, api.ErrText}, {"a)", 1, api.ErrText}, {"a\x00", 1, api.ErrText}, {";)", 0, api.OK},
		{strings.Repeat("(", 200) + strings.Repeat(")", 200), 0, api.OK}, {strings.Repeat("(", 201) + strings.Repeat(")", 201), 200, api.ErrBig},
	})
	if s, e := Print([]S{Row(a, Row(b))}); s != "(a (b))\n" || e != api.OK {
		t.Errorf("%q, %d", s, e)
	}
	if s, e := Print([]S{{Leaf: true, Word: "a b"}}); s != "" || e != api.ErrForm {
		t.Errorf("%q, %d", s, e)
	}
}
