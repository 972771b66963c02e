package script_test

import (
	"fmt"
	"math"
	"math/rand"
	"slices"
	"strconv"
	"strings"
	"testing"

	"stipend/api"
	"stipend/code"
	"stipend/date"
	"stipend/element"
	"stipend/money"
	"stipend/order"
	"stipend/period"
	"stipend/script"
	"stipend/word"
)

// forms: the commands in their order, each with what its words tell: w the table's line, f a frequency, d a day, n who, c a code, e an element, o an order, i its number, p a period, k a kind, a an amount.
var forms = []string{
	"set w", "open fd", "hire nc", "code nc", "pay ne", "order no", "cancel ni", "protect na", "run n",
	"fix npka", "gross na", "slip np", "total n", "books ", "undo n", "budget na", "pieces n", "fixes n",
}

// form: the name and the words of a command's number.
func form(op int) (string, string) {
	name, letters, _ := strings.Cut(forms[op-1], " ")
	return name, letters
}

// model: what Decode must tell.
func model(line string) (script.Command, api.Errno) {
	words, e := word.Cut(line)
	if e != api.OK || len(words) == 0 {
		return script.Command{}, e
	}
	for op := 1; op <= len(forms); op++ {
		if name, letters := form(op); name == words[0] {
			return modelWords(script.Command{Op: op}, letters, words[1:])
		}
	}
	return script.Command{}, api.ErrCommand
}

// modelWords: likewise, of the words behind the name.
func modelWords(c script.Command, letters string, words []string) (script.Command, api.Errno) {
	for _, letter := range letters {
		if len(words) == 0 {
			return script.Command{}, api.ErrForm
		}
		e, used := api.OK, 1
		switch w := words[0]; letter {
		case 'w':
			c.Words, used = words, len(words)
		case 'f':
			c.Freq, e = period.Freq(w)
		case 'd':
			c.Start, e = date.Parse(w)
		case 'n', 'k':
			if !word.Name(w) {
				return script.Command{}, api.ErrForm
			}
			if letter == 'n' {
				c.Who = w
			} else {
				c.Element.Kind = w
			}
		case 'c':
			c.Code, e = code.Parse(w)
		case 'e':
			c.Element, e = element.Parse(words...)
			used = len(words)
		case 'o':
			c.Order, e = order.Parse(words...)
			used = len(words)
		case 'i':
			c.Order.ID, e = word.Int(w)
		case 'p':
			c.Period, e = word.Int(w)
		case 'a':
			c.Amount, e = money.Parse(w)
		}
		if e != api.OK {
			return script.Command{}, e
		}
		words = words[used:]
	}
	if len(words) > 0 {
		return script.Command{}, api.ErrForm
	}
	return c, api.OK
}

// modelEncode: what Encode must tell.
func modelEncode(c script.Command) (string, api.Errno) {
	if c.Op < 1 || c.Op > len(forms) {
		return "", api.ErrCommand
	}
	name, letters := form(c.Op)
	words := []string{name}
	for _, letter := range letters {
		switch letter {
		case 'w':
			words = append(words, c.Words...)
		case 'f':
			words = append(words, period.Name(c.Freq))
		case 'd':
			words = append(words, date.Text(c.Start))
		case 'n':
			words = append(words, c.Who)
		case 'k':
			words = append(words, c.Element.Kind)
		case 'c':
			words = append(words, code.Text(c.Code))
		case 'e':
			words = append(words, c.Element.Kind, money.Text(c.Element.Amount))
			if c.Element.Units != 100 {
				words = append(words, "x"+money.Text(c.Element.Units))
			}
		case 'o':
			words = append(words, order.Words(c.Order)...)
		case 'i':
			words = append(words, strconv.Itoa(c.Order.ID))
		case 'p':
			words = append(words, strconv.Itoa(c.Period))
		case 'a':
			words = append(words, money.Text(c.Amount))
		}
	}
	line, e := word.Join(words...)
	if e != api.OK {
		return "", e
	}
	told, e := model(line)
	if e != api.OK {
		return "", e
	}
	if !same(told, c) {
		return "", api.ErrCommand
	}
	return line, api.OK
}

// pick: one of some.
func pick[T any](r *rand.Rand, list ...T) T { return list[r.Intn(len(list))] }

// wordOf: a word for what a letter tells: one in eight is wrong.
func wordOf(r *rand.Rand, letter rune) string {
	if r.Intn(8) == 0 {
		return pick(r, "x", `""`, `"a b"`, "5.", "-", "1000000000", "1000000000.01", "Ann", "nope", "K0", "2024-02-30", "D9", "007", "-0", "a-34567890123456-", `"`, "é")
	}
	switch letter {
	case 'w':
		return pick(r, "limit 5000", "round", "scheme 0.00:2000 5.00:4000", `"" " "`, "x")
	case 'f':
		return pick(r, "weekly", "fortnightly", "fourweekly", "monthly")
	case 'd':
		return pick(r, "2024-04-06", "1900-01-01", "2199-12-31", "2024-02-29", "2023-02-29")
	case 'n', 'k':
		return pick(r, "ann", "bob-2", "a", "books", "a-3456789012345-", `"ann"`)
	case 'c':
		return pick(r, "0L", "1257L", "QK10X", "VD7", "NT", "PNTX", "999999L")
	case 'e':
		return pick(r, "salary 5.00", "hourly 12.50 x2.00", "a -7 x0.00", "a 1.00 x1000.00", "a 1 x1.00", "a 5 x1000.01", "a 5 6")
	case 'o':
		return pick(r, "7 2 50.00 0 80.00", "8 0 0.00 1000 0", "999999 999 0.01 10000 0.00", "7 2 0.00 0 0.00", "0 2 5.00 0 0.00", "7 2 5.00 10001 0.00", "7 2 5.00 0")
	case 'a':
		return pick(r, "0", "5", "5.00", "-5.00", "1000000000.00", "-1000000000", "0.01")
	}
	return pick(r, "0", "1", "-7", "999999", "999999999", "-999999999")
}

// lineOf: a line by chance: its command's words, one in five with one too few, too many, or in another place.
func lineOf(r *rand.Rand) string {
	name, letters := form(1 + r.Intn(len(forms)))
	words := []string{name}
	for _, letter := range letters {
		words = append(words, wordOf(r, letter))
	}
	switch r.Intn(15) {
	case 0:
		words = words[:len(words)-1]
	case 1:
		words = append(words, wordOf(r, pick(r, 'a', 'p', 'n')))
	case 2:
		i, j := r.Intn(len(words)), r.Intn(len(words))
		words[i], words[j] = words[j], words[i]
	}
	return strings.Join(words, pick(r, " ", " ", "  ")) + pick(r, "", "", " ", " # so", "#")
}

// P29.1, P29.2: lines by chance, against the words of the promises.
func TestDecodeMany(t *testing.T) {
	r := rand.New(rand.NewSource(291))
	errors, ops := map[api.Errno]int{}, map[int]int{}
	for range 120_000 {
		line := lineOf(r)
		want, wantE := model(line)
		sameDecode(t, line, want, wantE)
		errors[wantE]++
		ops[want.Op]++
		if wantE == api.OK && want.Op > 0 {
			text, e := script.Encode(want)
			again, d := script.Decode(text)
			if e != api.OK || d != api.OK || !same(again, want) {
				t.Errorf("Encode(%+v): %q %v, which tells %+v %v", want, text, e, again, d)
			}
		}
	}
	for _, e := range []api.Errno{api.OK, api.ErrForm, api.ErrRange, api.ErrOverflow, api.ErrCommand, api.ErrFreq, api.ErrDate, api.ErrCode, api.ErrRate} {
		if errors[e] < 100 {
			t.Errorf("only %d lines with %v", errors[e], e)
		}
	}
	for op := 1; op <= len(forms); op++ {
		if ops[op] < 1000 {
			t.Errorf("only %d lines of the command %d", ops[op], op)
		}
	}
}

// P29.2: all lines of up to four words of some that mean something to one command or another.
func TestDecodeAll(t *testing.T) {
	some := []string{"set", "fix", "pay", "open", "cancel", "books", "weekly", "2024-04-06", "ann", "0L", "K0", "7", "1000000000", "x2.00", "5.00", "1000000000.01", "Ann", ""}
	var all func(words []string, most int)
	all = func(words []string, most int) {
		line, e := word.Join(words...)
		if e != api.OK {
			t.Fatalf("Join(%q): %v", words, e)
		}
		want, wantE := model(line)
		sameDecode(t, line, want, wantE)
		if most == 0 {
			return
		}
		for _, w := range some {
			all(append(slices.Clone(words), w), most-1)
		}
	}
	all(nil, 4)
}

// commandOf: a command by chance: what such a one tells, each of it wrong now and then, and something that it doesn't.
func commandOf(r *rand.Rand) script.Command {
	c, _ := model(lineOf(r))
	if r.Intn(20) == 0 {
		c.Op = pick(r, 0, -1, 19, 1+r.Intn(18))
	}
	numbers := []int{math.MinInt, -1_000_000_000, -1, 0, 1, 4, 5, 7, 999_999_999, 1_000_000_000, math.MaxInt}
	amounts := []int64{math.MinInt64, -most - 1, -most, -1, 0, 1, 100, 200, 100_000, 100_001, most, most + 1, math.MaxInt64}
	texts := []string{"", "ann", "Ann", "a b", "a\"", "\x00", "a#", "a-34567890123456-", strings.Repeat("a", 510), strings.Repeat(" ", 505), "limit"}
	for range r.Intn(3) {
		switch r.Intn(14) {
		case 0:
			c.Who = pick(r, texts...)
		case 1:
			c.Words = append(slices.Clone(c.Words), pick(r, texts...))
		case 2:
			c.Words = slices.Repeat([]string{pick(r, texts...)}, r.Intn(34))
		case 3:
			c.Freq = pick(r, numbers...)
		case 4:
			c.Start = api.Date{Year: pick(r, 2023, 2024, 0, 2200), Month: pick(r, 2, 4), Day: pick(r, 0, 1, 29)}
		case 5:
			c.Code = api.Code{Scheme: r.Intn(9), Kind: r.Intn(6), Amount: pick(r, amounts...), Flat: r.Intn(9), Alone: r.Intn(2) == 0}
		case 6:
			c.Element.Kind = pick(r, texts...)
		case 7:
			c.Element.Amount = pick(r, amounts...)
		case 8:
			c.Element.Units = pick(r, amounts...)
		case 9:
			c.Order.ID = pick(r, numbers...)
		case 10:
			c.Order = api.Order{ID: pick(r, 0, 7, 8, 999_999), Priority: pick(r, 0, 2, 999, 1000), Amount: pick[int64](r, 0, 1, most, most+1), Rate: pick(r, -1, 0, 10000, 10001), Total: pick[int64](r, -1, 0, most)}
		case 11:
			c.Amount = pick(r, amounts...)
		case 12:
			c.Period = pick(r, numbers...)
		case 13:
			c.Start.Day++
		}
	}
	return c
}

// P29.3: commands by chance, against the words of the promise; nothing of them is changed.
func TestEncodeMany(t *testing.T) {
	r := rand.New(rand.NewSource(293))
	errors := map[api.Errno]int{}
	for range 120_000 {
		c := commandOf(r)
		before := fmt.Sprintf("%q", fmt.Sprint(c))
		want, wantE := modelEncode(c)
		sameEncode(t, c, want, wantE)
		if after := fmt.Sprintf("%q", fmt.Sprint(c)); after != before {
			t.Fatalf("Encode changes %s to %s", before, after)
		}
		errors[wantE]++
	}
	for _, e := range []api.Errno{api.OK, api.ErrForm, api.ErrRange, api.ErrOverflow, api.ErrCommand, api.ErrFreq, api.ErrLong, api.ErrRate} {
		if errors[e] < 10 {
			t.Errorf("only %d commands with %v", errors[e], e)
		}
	}
}

// P29.4: texts by chance, line by line.
func TestCommandsMany(t *testing.T) {
	r := rand.New(rand.NewSource(294))
	right, wrong := 0, 0
	for range 5000 {
		var text string
		var want []script.Command
		first, firstE := 0, api.OK
		for i := range r.Intn(12) {
			line := pick(r, "", "  # so", "books", "run ann", lineOf(r))
			text += line + "\n"
			c, e := model(line)
			if e != api.OK && first == 0 {
				first, firstE = i+1, e
			}
			if c.Op > 0 {
				want = append(want, c)
			}
		}
		if first > 0 {
			want = nil
			wrong++
		} else {
			right++
		}
		if list, n, e := script.Commands(text); !slices.EqualFunc(list, want, same) || n != first || e != firstE {
			t.Errorf("Commands(%q): %+v %d %v, not %+v %d %v", text, list, n, e, want, first, firstE)
		}
	}
	if right < 500 || wrong < 500 {
		t.Errorf("%d right, %d wrong", right, wrong)
	}
}

// P2: what is answered is new memory, its spare room too; what is handed in isn't changed.
func TestMemory(t *testing.T) {
	const line = "set limit 5000 x"
	one, e := script.Decode(line)
	two, d := script.Decode(line)
	if e != api.OK || d != api.OK {
		t.Fatal(e, d)
	}
	for i := range one.Words[:cap(one.Words)] {
		one.Words[:cap(one.Words)][i] = "y"
	}
	if !slices.Equal(two.Words, []string{"limit", "5000", "x"}) {
		t.Errorf("two answers of Decode share %q", two.Words)
	}
	list, _, e := script.Commands("set a b\nset a b")
	if e != api.OK {
		t.Fatal(e)
	}
	for i := range list[0].Words[:cap(list[0].Words)] {
		list[0].Words[:cap(list[0].Words)][i] = "y"
	}
	if !slices.Equal(list[1].Words, []string{"a", "b"}) {
		t.Errorf("two commands share %q", list[1].Words)
	}
	words := []string{"limit", "5000", "spare", "room"}
	if _, e := script.Encode(script.Command{Op: script.Set, Words: words[:2]}); e != api.OK || !slices.Equal(words, []string{"limit", "5000", "spare", "room"}) {
		t.Errorf("Encode: %v, changes its words to %q", e, words)
	}
}

// P1: no call panics, whatever it is given, and each answers the same again: each byte in each place of a line, and texts of any bytes.
func TestEnds(t *testing.T) {
	look := func(s string) {
		all := func() string {
			c, e := script.Decode(s)
			line, d := script.Encode(c)
			list, n, f := script.Commands(s)
			made, g := script.Encode(script.Command{Op: 1 + len(s)%18, Who: s, Words: []string{s}, Element: api.Element{Kind: s}})
			return fmt.Sprintln(c, e, line, d, list, n, f, made, g, script.Same(c, c))
		}
		if one, two := all(), all(); one != two {
			t.Errorf("%q: %s, then %s", s, one, two)
		}
		want, wantE := model(s)
		sameDecode(t, s, want, wantE)
	}
	for _, x := range told {
		for i := range len(x.line) + 1 {
			look(x.line[:i])
			for b := range 256 {
				look(x.line[:i] + string([]byte{byte(b)}) + x.line[min(i+1, len(x.line)):])
			}
		}
	}
	r := rand.New(rand.NewSource(1))
	for range 2000 {
		s := make([]byte, r.Intn(600))
		for i := range s {
			s[i] = byte(r.Intn(256))
		}
		look(string(s))
		look(pick(r, "set ", "pay ", "order ann ") + string(s))
	}
}
