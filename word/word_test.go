package word_test

import (
	"fmt"
	"math/rand"
	"regexp"
	"slices"
	"strconv"
	"strings"
	"testing"
	"unsafe"

	"stipend/api"
	"stipend/word"
)

// The document's limits.
const (
	maxLine  = 512
	maxWords = 32
	maxName  = 16
)

// all calls a function with each text of up to so many of the bytes.
func all(bytes string, most int, call func(s string)) {
	call("")
	if most == 0 {
		return
	}
	for i := range len(bytes) {
		all(bytes, most-1, func(s string) { call(bytes[i:i+1] + s) })
	}
}

// chance: a text of so many of the bytes, the same at each run.
func chance(r *rand.Rand, bytes string, n int) string {
	text := make([]byte, n)
	for i := range text {
		text[i] = bytes[r.Intn(len(bytes))]
	}
	return string(text)
}

// every: all bytes that there are.
func every() string {
	list := make([]byte, 256)
	for i := range list {
		list[i] = byte(i)
	}
	return string(list)
}

// line: words without quotes, so many, with a blank between two.
func line(n int) string { return strings.TrimSuffix(strings.Repeat("a ", n), " ") }

func TestLimits(t *testing.T) {
	if word.MaxLine != maxLine || word.MaxWords != maxWords || word.MaxName != maxName {
		t.Error("the limits aren't the document's")
	}
}

// first: the word that a text begins with, and what must be behind it.
var first = regexp.MustCompile(`^(?:([!$-~]+)|"([ !#-~]*)")(?:[ #]|$)`)

// cut: what Cut must tell of a line.
func cut(line string) ([]string, api.Errno) {
	if len(line) > maxLine {
		return nil, api.ErrLong
	}
	var words []string
	for {
		line = strings.TrimLeft(line, " ")
		if line == "" || line[0] == '#' {
			return words, api.OK
		}
		if len(words) == maxWords {
			return nil, api.ErrLong
		}
		found := first.FindStringSubmatch(line)
		if found == nil {
			return nil, api.ErrForm
		}
		words = append(words, found[1]+found[2])
		quotes := 0
		if found[1] == "" {
			quotes = 2
		}
		line = line[len(found[1])+len(found[2])+quotes:]
	}
}

// sameCut tells a test's fault, if Cut answers otherwise.
func sameCut(t *testing.T, line string, want []string, wantE api.Errno) {
	t.Helper()
	if got, e := word.Cut(line); !slices.Equal(got, want) || e != wantE {
		t.Errorf("Cut(%q): %q, %v, not %q, %v", line, got, e, want, wantE)
	}
}

// P7.1: what the document tells, and its edges.
func TestCut(t *testing.T) {
	for _, c := range []struct {
		line string
		want []string
		e    api.Errno
	}{
		{`pay ann  "a # b" -12 # so`, []string{"pay", "ann", "a # b", "-12"}, api.OK},
		{"", nil, api.OK}, {"   ", nil, api.OK}, {"#", nil, api.OK}, {"  # a", nil, api.OK},
		{"a", []string{"a"}, api.OK}, {"  a  ", []string{"a"}, api.OK}, {"a#b", []string{"a"}, api.OK}, {"a #b c", []string{"a"}, api.OK},
		{`""`, []string{""}, api.OK}, {`"" ""`, []string{"", ""}, api.OK}, {`" "`, []string{" "}, api.OK}, {`"#"`, []string{"#"}, api.OK},
		{`"a"`, []string{"a"}, api.OK}, {`"a"#b`, []string{"a"}, api.OK}, {`"a" "b c"`, []string{"a", "b c"}, api.OK},
		{"!~ $", []string{"!~", "$"}, api.OK}, {`a=b c'd \n`, []string{"a=b", "c'd", `\n`}, api.OK},
		{`"`, nil, api.ErrForm}, {`"a`, nil, api.ErrForm}, {`a"`, nil, api.ErrForm}, {`a"b"`, nil, api.ErrForm}, {`"a"b`, nil, api.ErrForm},
		{`""""`, nil, api.ErrForm}, {`"a""b"`, nil, api.ErrForm}, {`"a # b`, nil, api.ErrForm}, {`a "`, nil, api.ErrForm}, {`a "b" "`, nil, api.ErrForm},
		{"a\tb", nil, api.ErrForm}, {"\ta", nil, api.ErrForm}, {"a \n", nil, api.ErrForm}, {"a\r", nil, api.ErrForm}, {"\x7f", nil, api.ErrForm}, {"é", nil, api.ErrForm},
		{"\"\t\"", nil, api.ErrForm}, {"\"\x7f\"", nil, api.ErrForm}, {"\"é\"", nil, api.ErrForm}, {"\"a\"\t", nil, api.ErrForm},
		{"a # \" \t é \n", []string{"a"}, api.OK}, {"#\"", nil, api.OK}, {"a#\x00", []string{"a"}, api.OK},
	} {
		sameCut(t, c.line, c.want, c.e)
	}
}

// P7.1: all short lines of those bytes on which it depends.
func TestCutAll(t *testing.T) {
	all("a \"#\x1f", 7, func(s string) {
		want, e := cut(s)
		sameCut(t, s, want, e)
	})
}

// P7.1: each byte that there is, in each place.
func TestCutBytes(t *testing.T) {
	for i := range 256 {
		b := string([]byte{byte(i)})
		for _, s := range []string{b, "a" + b, b + "a", "a" + b + "a", "a " + b, `"` + b + `"`, `"a` + b, `"a"` + b, `"a" ` + b, "# " + b, "a#" + b, b + "#", b + ` "a"`} {
			want, e := cut(s)
			sameCut(t, s, want, e)
		}
	}
}

// P7.1: long lines, by chance.
func TestCutMany(t *testing.T) {
	r := rand.New(rand.NewSource(71))
	for _, bytes := range []string{"ab   ", "abcdefgh \"", "a    #", "a \"  \"  ", "abc 1-2 \"#", every()} {
		for range 4000 {
			s := chance(r, bytes, r.Intn(100))
			want, e := cut(s)
			sameCut(t, s, want, e)
		}
	}
}

// P7.1: a line's bytes are counted ahead of all else.
func TestCutLine(t *testing.T) {
	for _, c := range []struct {
		line string
		e    api.Errno
	}{
		{strings.Repeat(" ", maxLine), api.OK}, {strings.Repeat(" ", maxLine+1), api.ErrLong},
		{"#" + strings.Repeat("x", maxLine-1), api.OK}, {"#" + strings.Repeat("x", maxLine), api.ErrLong},
		{strings.Repeat("\x00", maxLine), api.ErrForm}, {strings.Repeat("\x00", maxLine+1), api.ErrLong}, {strings.Repeat(`"`, 100_001), api.ErrLong},
	} {
		sameCut(t, c.line, nil, c.e)
	}
	longest := strings.Repeat("x", maxLine)
	sameCut(t, longest, []string{longest}, api.OK)
	sameCut(t, longest+"x", nil, api.ErrLong)
	sameCut(t, `"`+longest[2:]+`"`, []string{longest[2:]}, api.OK)
}

// P7.1: a word too many, and what is wrong ahead of it, in its place and behind it.
func TestCutWords(t *testing.T) {
	most := slices.Repeat([]string{"a"}, maxWords)
	full := line(maxWords)
	for _, behind := range []string{"", " ", "    ", "#", " #", " # a", "#\x00", ` # "`} {
		sameCut(t, full+behind, most, api.OK)
	}
	for _, behind := range []string{" a", ` ""`, ` "`, " \x00", "   \t", " é", ` a"`, ` a # "`} {
		sameCut(t, full+behind, nil, api.ErrLong)
	}
	quoted := strings.TrimSuffix(strings.Repeat(`"" `, maxWords), " ")
	sameCut(t, quoted, make([]string, maxWords), api.OK)
	sameCut(t, quoted+` ""`, nil, api.ErrLong)
	// What is wrong by its form is met first, if it isn't behind as many words.
	for _, ahead := range []string{`" `, "\x00 ", `a" `, `""a `, "a\t "} {
		sameCut(t, ahead+full, nil, api.ErrForm)
	}
	for _, last := range []string{`"`, "\x00", `a"`, "a\x00", `""a`, `"a`, `"a""a"`} {
		sameCut(t, line(maxWords-1)+" "+last, nil, api.ErrForm)
		sameCut(t, full+" "+last, nil, api.ErrLong)
	}
}

// quotable and bare: what may stand in quotes, and what needs none.
var (
	quotable = regexp.MustCompile(`^[ !#-~]*$`)
	bare     = regexp.MustCompile(`^[!$-~]+$`)
)

// quote: what Quote must tell of a text.
func quote(s string) (string, api.Errno) {
	if !quotable.MatchString(s) {
		return "", api.ErrForm
	}
	if bare.MatchString(s) {
		return s, api.OK
	}
	return `"` + s + `"`, api.OK
}

// sameQuote tells a test's fault, if Quote answers otherwise, or Cut doesn't lead back.
func sameQuote(t *testing.T, s string) {
	t.Helper()
	want, wantE := quote(s)
	got, e := word.Quote(s)
	if got != want || e != wantE {
		t.Errorf("Quote(%q): %q, %v, not %q, %v", s, got, e, want, wantE)
	}
	if e == api.OK && len(got) <= maxLine {
		sameCut(t, got, []string{s}, api.OK)
	}
}

// P7.2: words as they stand in lines, which Cut leads back to.
func TestQuote(t *testing.T) {
	for s, want := range map[string]string{"": `""`, "a": "a", "a b": `"a b"`, " ": `" "`, "#": `"#"`, "a#b": `"a#b"`, "-12": "-12", "~!": "~!", `\`: `\`, "'": "'"} {
		if got, e := word.Quote(s); got != want || e != api.OK {
			t.Errorf("Quote(%q): %q, %v, not %q", s, got, e, want)
		}
	}
	for _, s := range []string{`"`, `""`, `a"`, `"a"`, "\x1f", "a\x7f", "é", "\n", "a b\t", strings.Repeat("a", 1000) + "\x00"} {
		if got, e := word.Quote(s); got != "" || e != api.ErrForm {
			t.Errorf("Quote(%q): %q, %v", s, got, e)
		}
	}
	all("a \"#\x1f~", 5, func(s string) { sameQuote(t, s) })
	for i := range 256 {
		b := string([]byte{byte(i)})
		for _, s := range []string{b, "a" + b, b + "a", "a " + b, "#" + b} {
			sameQuote(t, s)
		}
	}
	for _, n := range []int{maxLine - 2, maxLine, maxLine + 1, 100_000} { // it isn't Quote that counts bytes
		sameQuote(t, strings.Repeat("x", n))
		sameQuote(t, strings.Repeat(" ", n))
	}
}

// join: what Join must tell of words.
func join(words []string) (string, api.Errno) {
	if len(words) > maxWords {
		return "", api.ErrLong
	}
	var list []string
	for _, w := range words {
		q, e := quote(w)
		if e != api.OK {
			return "", e
		}
		list = append(list, q)
		if len(strings.Join(list, " ")) > maxLine {
			return "", api.ErrLong
		}
	}
	return strings.Join(list, " "), api.OK
}

// P7.2: words as a line, one by one.
func TestJoin(t *testing.T) {
	x := func(n int) string { return strings.Repeat("x", n) }
	for _, c := range []struct {
		words []string
		want  string
		e     api.Errno
	}{
		{nil, "", api.OK}, {[]string{"a"}, "a", api.OK}, {[]string{""}, `""`, api.OK}, {[]string{"a", "", "b c", "#"}, `a "" "b c" "#"`, api.OK},
		{[]string{"pay", "ann", "a # b", "-12"}, `pay ann "a # b" -12`, api.OK},
		{slices.Repeat([]string{"a"}, maxWords), line(maxWords), api.OK}, {slices.Repeat([]string{"a"}, maxWords+1), "", api.ErrLong},
		{slices.Repeat([]string{`"`}, maxWords), "", api.ErrForm}, {slices.Repeat([]string{`"`}, maxWords+1), "", api.ErrLong},
		{[]string{x(maxLine)}, x(maxLine), api.OK}, {[]string{x(maxLine + 1)}, "", api.ErrLong},
		{[]string{x(maxLine - 2), "y"}, x(maxLine-2) + " y", api.OK}, {[]string{x(maxLine - 1), "y"}, "", api.ErrLong}, {[]string{x(maxLine), ""}, "", api.ErrLong},
		{[]string{x(maxLine-4) + " "}, `"` + x(maxLine-4) + ` "`, api.OK}, {[]string{x(maxLine-3) + " "}, `"` + x(maxLine-3) + ` "`, api.OK}, {[]string{x(maxLine-2) + " "}, "", api.ErrLong},
		{[]string{x(maxLine - 3), ""}, x(maxLine-3) + ` ""`, api.OK}, {[]string{x(maxLine - 2), ""}, "", api.ErrLong},
		{[]string{x(maxLine), "\x00"}, "", api.ErrForm}, {[]string{x(maxLine + 1), "\x00"}, "", api.ErrLong}, {[]string{"\x00", x(maxLine + 1)}, "", api.ErrForm}, {[]string{x(maxLine+1) + `"`}, "", api.ErrForm},
		{[]string{"a", `b"`, "c"}, "", api.ErrForm}, {[]string{"a", "b", "é"}, "", api.ErrForm},
	} {
		got, e := word.Join(c.words...)
		if want, wantE := join(c.words); want != c.want || wantE != c.e {
			t.Fatalf("the reference of %q: %q, %v, not %q, %v", c.words, want, wantE, c.want, c.e)
		}
		if got != c.want || e != c.e {
			t.Errorf("Join(%q): %q, %v, not %q, %v", c.words, got, e, c.want, c.e)
		}
	}
}

// P7.2: many words, by chance; Cut leads back to them.
func TestJoinMany(t *testing.T) {
	r := rand.New(rand.NewSource(72))
	for range 20_000 {
		var words []string
		for n := r.Intn(40); n > 0; n-- {
			bytes := "ab 1#-"
			if r.Intn(60) == 0 {
				bytes = "a\"\x00"
			}
			words = append(words, chance(r, bytes, r.Intn(24)))
		}
		want, wantE := join(words)
		got, e := word.Join(words...)
		if got != want || e != wantE {
			t.Fatalf("Join(%q): %q, %v, not %q, %v", words, got, e, want, wantE)
		}
		if e == api.OK {
			sameCut(t, got, words, api.OK)
		}
	}
}

var name = regexp.MustCompile(`^[a-z][a-z0-9-]{0,15}$`)

// sameName tells a test's fault, if Name answers otherwise.
func sameName(t *testing.T, s string) {
	t.Helper()
	if want := name.MatchString(s); word.Name(s) != want {
		t.Errorf("Name(%q) is %v", s, !want)
	}
}

// P7.3: what a name is.
func TestName(t *testing.T) {
	for s, want := range map[string]bool{
		"a": true, "z": true, "a-1": true, "ann": true, "a--": true, "a9": true, "abcdefghijklmnop": true, "a---------------": true,
		"": false, "abcdefghijklmnopq": false, "1": false, "-": false, "-a": false, "1a": false, "A": false, "aB": false, "a b": false, "a_": false, "a.b": false, "é": false, "aé": false, "a\n": false, " a": false, "a ": false,
	} {
		if word.Name(s) != want {
			t.Errorf("Name(%q) is %v", s, !want)
		}
	}
	all("az09-A`{/:", 4, func(s string) { sameName(t, s) })
	for i := range 256 {
		b := string([]byte{byte(i)})
		for _, s := range []string{b, "a" + b, b + "a", "a" + b + "a", "abcdefghijklmno" + b, "abcdefghijklmnop" + b} {
			sameName(t, s)
		}
	}
	for n := range 40 {
		sameName(t, strings.Repeat("a", n))
	}
	sameName(t, strings.Repeat("a", 100_000))
}

var number = regexp.MustCompile(`^(0|-?[1-9][0-9]*)$`)

// sameInt tells a test's fault, if Int answers otherwise.
func sameInt(t *testing.T, s string) {
	t.Helper()
	want, wantE := 0, api.OK
	if !number.MatchString(s) {
		wantE = api.ErrForm
	} else if len(strings.TrimPrefix(s, "-")) > 9 {
		wantE = api.ErrRange
	} else {
		want, _ = strconv.Atoi(s)
	}
	if got, e := word.Int(s); got != want || e != wantE {
		t.Errorf("Int(%q): %d, %v, not %d, %v", s, got, e, want, wantE)
	}
}

// P7.3: whole numbers, in their form and within their range.
func TestInt(t *testing.T) {
	for _, c := range []struct {
		s    string
		want int
		e    api.Errno
	}{
		{"0", 0, api.OK}, {"7", 7, api.OK}, {"-7", -7, api.OK}, {"10", 10, api.OK}, {"-12", -12, api.OK}, {"999999999", 999999999, api.OK}, {"-999999999", -999999999, api.OK}, {"100000000", 100000000, api.OK},
		{"1000000000", 0, api.ErrRange}, {"-1000000000", 0, api.ErrRange}, {"4294967297", 0, api.ErrRange}, {"18446744073709551617", 0, api.ErrRange}, {"1" + strings.Repeat("0", 1000), 0, api.ErrRange},
		{"", 0, api.ErrForm}, {"-", 0, api.ErrForm}, {"-0", 0, api.ErrForm}, {"00", 0, api.ErrForm}, {"01", 0, api.ErrForm}, {"-01", 0, api.ErrForm}, {"+1", 0, api.ErrForm}, {"--1", 0, api.ErrForm}, {"1-", 0, api.ErrForm},
		{"1.0", 0, api.ErrForm}, {"1_0", 0, api.ErrForm}, {"0x1", 0, api.ErrForm}, {"1e3", 0, api.ErrForm}, {" 1", 0, api.ErrForm}, {"1 ", 0, api.ErrForm}, {"a", 0, api.ErrForm}, {"١", 0, api.ErrForm}, {"1\n", 0, api.ErrForm},
		{"0000000000", 0, api.ErrForm}, {"-0000000000", 0, api.ErrForm}, {"0123456789", 0, api.ErrForm}, {"1234567890a", 0, api.ErrForm}, {"a1234567890", 0, api.ErrForm}, {"-0000000001", 0, api.ErrForm},
	} {
		if got, e := word.Int(c.s); got != c.want || e != c.e {
			t.Errorf("Int(%q): %d, %v, not %d, %v", c.s, got, e, c.want, c.e)
		}
	}
	all("-+019/: ", 5, func(s string) { sameInt(t, s) })
	r := rand.New(rand.NewSource(73))
	for range 20_000 {
		sameInt(t, chance(r, "0123456789", 1+r.Intn(12)))
		sameInt(t, "-"+chance(r, "0123456789", 1+r.Intn(12)))
		sameInt(t, strconv.Itoa(r.Intn(2_000_000_000)-1_000_000_000))
	}
	for i := range 256 {
		b := string([]byte{byte(i)})
		for _, s := range []string{b, "1" + b, b + "1", "-1" + b, "-" + b, "123456789" + b} {
			sameInt(t, s)
		}
	}
}

// P7.4: the two sides of a word.
func TestOption(t *testing.T) {
	for _, c := range []struct {
		s, name, value string
		ok             bool
	}{
		{"a=b", "a", "b", true}, {"a=", "a", "", true}, {"a=b=c", "a", "b=c", true}, {"a==", "a", "=", true}, {" = ", " ", " ", true}, {"é=\x00", "é", "\x00", true}, {"a b=c d", "a b", "c d", true},
		{"", "", "", false}, {"a", "", "", false}, {"=", "", "", false}, {"=b", "", "", false}, {"=b=c", "", "", false}, {"==", "", "", false}, {"a:b", "", "", false},
	} {
		if name, value, ok := word.Option(c.s); name != c.name || value != c.value || ok != c.ok {
			t.Errorf("Option(%q): %q, %q, %v", c.s, name, value, ok)
		}
	}
	all("a= <>", 6, func(s string) {
		at := strings.IndexByte(s, '=')
		want := [2]string{}
		if at > 0 {
			want = [2]string{s[:at], s[at+1:]}
		}
		if name, value, ok := word.Option(s); [2]string{name, value} != want || ok != (at > 0) {
			t.Errorf("Option(%q): %q, %q, %v, not %q", s, name, value, ok, want)
		}
	})
}

// P7.5: a text's lines.
func TestLines(t *testing.T) {
	for _, c := range []struct {
		text string
		want []string
	}{
		{"", nil}, {"a", []string{"a"}}, {"a\n", []string{"a"}}, {"a\nb", []string{"a", "b"}}, {"a\nb\n", []string{"a", "b"}},
		{"\n", []string{""}}, {"\n\n", []string{"", ""}}, {"\na", []string{"", "a"}}, {"a\n\n", []string{"a", ""}}, {"a\n\nb", []string{"a", "", "b"}},
		{"a\r\nb\r", []string{"a\r", "b\r"}}, {" \n#\n\x00é\v\f", []string{" ", "#", "\x00é\v\f"}},
	} {
		if got := word.Lines(c.text); !slices.Equal(got, c.want) {
			t.Errorf("Lines(%q): %q, not %q", c.text, got, c.want)
		}
	}
	all("a\n\r ", 7, func(s string) {
		var want []string
		if s != "" {
			want = strings.Split(strings.TrimSuffix(s, "\n"), "\n")
		}
		if got := word.Lines(s); !slices.Equal(got, want) {
			t.Errorf("Lines(%q): %q, not %q", s, got, want)
		}
	})
	if got := word.Lines(strings.Repeat("\n", 100_000)); len(got) != 100_000 {
		t.Errorf("of many line feeds: %d lines", len(got))
	}
}

// shares: is a text, or a part of it, where another one is?
func shares(a, b string) bool {
	from, to := uintptr(unsafe.Pointer(unsafe.StringData(a))), uintptr(unsafe.Pointer(unsafe.StringData(b)))
	return a != "" && b != "" && from < to+uintptr(len(b)) && to < from+uintptr(len(a))
}

// P2: lists that are handed in stay as they are, their spare room too.
func TestHandedIn(t *testing.T) {
	words := append(make([]string, 0, 4), "a", "b c", `"`, "\x00")
	was := slices.Clone(words)
	word.Join(words[:2]...)
	word.Join(words[:3]...)
	if !slices.Equal(words, was) {
		t.Error("what is handed in was changed")
	}
}

// P2: what is answered is new memory.
func TestMemory(t *testing.T) {
	text := "pay=ann \"a b\" pay=ann\n pay=bob"
	lines := word.Lines(text)
	words, _ := word.Cut(lines[0])
	again, _ := word.Cut(lines[0])
	name, value, _ := word.Option(words[0])
	quoted, _ := word.Quote(words[0])
	joined, _ := word.Join(words[0])
	answers := slices.Concat([]string{text}, lines, words, again, []string{name, value, quoted, joined})
	for i, a := range answers {
		if slices.ContainsFunc(answers[i+1:], func(b string) bool { return shares(a, b) }) {
			t.Errorf("%q is shared", a)
		}
	}
	for i := range words[:cap(words)] {
		words[:cap(words)][i] = "x"
	}
	if !slices.Equal(again, []string{"pay=ann", "a b", "pay=ann"}) {
		t.Errorf("another answer was changed: %q", again)
	}
}

// P1: no call panics, whatever it is given.
func TestEnds(t *testing.T) {
	r := rand.New(rand.NewSource(7))
	texts := []string{"", "\xff\xfe", "\"", strings.Repeat("\"", 511), strings.Repeat("#", 600), strings.Repeat("\n", 600), strings.Repeat("-", 600), strings.Repeat("=", 600), strings.Repeat("9", 600)}
	for range 500 {
		texts = append(texts, chance(r, every(), r.Intn(600)))
	}
	for i, s := range texts {
		func() {
			defer func() {
				if why := recover(); why != nil {
					t.Errorf("%q: %v", s, why)
				}
			}()
			for at := range len(s) {
				word.Cut(s[at:])
			}
			word.Quote(s)
			word.Join(texts[i/2 : i+1]...)
			word.Name(s)
			word.Int(s)
			word.Option(s)
			word.Lines(s)
		}()
	}
}

// P2: what a call answers hangs on its arguments alone.
func TestAgain(t *testing.T) {
	told := func() string {
		cut, e := word.Cut(`a "b c" # d`)
		joined, f := word.Join(cut...)
		n, g := word.Int("-12")
		return fmt.Sprint(cut, e, joined, f, n, g, word.Name("ann"), word.Lines("a\nb"))
	}
	was := told()
	word.Cut(`"`)
	word.Join(`"`)
	word.Int("x")
	word.Lines("x")
	if told() != was {
		t.Error("the same calls answer otherwise")
	}
}
