package table

import (
	"strconv"
	"strings"

	"stipend/api"
	"stipend/frac"
	"stipend/money"
	"stipend/word"
)

// The words that lines begin with.
const (
	limitHead   = "limit"
	roundHead   = "round"
	schemeHead  = "scheme"
	contribHead = "contrib"
	kindHead    = "kind"
)

// The words for the bases of contributions, and for what is put to a base, is not in it, or is taken from it.
const (
	onTaxable = "taxable"
	onSocial  = "social"
	putTo     = "+"
	notIn     = "0"
	takenFrom = "-"
)

const (
	within       = ":" // stands between what tells a band
	schemeSides  = 2   // tell a scheme's band
	contribSides = 3   // tell a contribution's
	contribWords = 5   // tell a contribution, ahead of its bands
	kindWords    = 4   // tell a kind
)

// modes are the names of the ways of rounding, by their numbers.
var modes = [...]string{
	api.Down:     "down",
	api.Up:       "up",
	api.Inward:   "inward",
	api.HalfUp:   "halfup",
	api.HalfEven: "halfeven",
	api.HalfDown: "halfdown",
}

// Mode: the way of rounding of a name.
func Mode(name string) (int, api.Errno) {
	for mode := range modes {
		if frac.Mode(mode) && modes[mode] == name {
			return mode, api.OK
		}
	}
	return 0, api.ErrForm
}

// ModeName: its name; empty: there is no such way.
func ModeName(mode int) string {
	if !frac.Mode(mode) {
		return ""
	}
	return modes[mode]
}

// Lines: a table that may be, line by line.
func Lines(t api.Table) []string {
	if Check(t) != api.OK {
		return nil
	}
	lines := []string{
		join(limitHead, strconv.Itoa(t.Limit)),
		join(roundHead, ModeName(t.Round)),
	}
	for _, scheme := range t.Schemes {
		lines = append(lines, join(schemeHead, bandWords(scheme, schemeSides)...))
	}
	for _, c := range t.Contribs {
		head := join(contribHead, c.Name, baseWord(c.Base), ModeName(c.Round), money.Text(c.PeriodCeil), money.Text(c.YearCeil))
		lines = append(lines, join(head, bandWords(c.Bands, contribSides)...))
	}
	for _, k := range t.Kinds {
		lines = append(lines, join(kindHead, k.Name, signWord(k.Cash), signWord(k.Taxable), signWord(k.Social)))
	}
	return lines
}

// join: words with a blank between. None of a table that may be needs quotes, and no line is too long.
func join(head string, words ...string) string {
	for _, w := range words {
		head += " " + w
	}
	return head
}

// bandWords: bands, a word each, with so many sides.
func bandWords(list []api.Band, sides int) []string {
	var words []string
	for _, b := range list {
		w := money.Text(b.From) + within + strconv.Itoa(b.Rate)
		if sides == contribSides {
			w += within + strconv.Itoa(b.Employer)
		}
		words = append(words, w)
	}
	return words
}

// baseWord: the word for a base of contributions.
func baseWord(base int) string {
	if base == api.OnTaxable {
		return onTaxable
	}
	return onSocial
}

// wordBase: the base of a word; false: it tells none.
func wordBase(w string) (int, bool) {
	switch w {
	case onTaxable:
		return api.OnTaxable, true
	case onSocial:
		return api.OnSocial, true
	}
	return 0, false
}

// signWord: the word for whether something is put to a base, taken from it, or not in it.
func signWord(n int) string {
	switch {
	case n > 0:
		return putTo
	case n < 0:
		return takenFrom
	}
	return notIn
}

// wordSign: what such a word tells; false: it tells nothing.
func wordSign(w string) (int, bool) {
	switch w {
	case putTo:
		return 1, true
	case notIn:
		return 0, true
	case takenFrom:
		return -1, true
	}
	return 0, false
}

// Put: a table with what a line's words say; what it says is looked over by Check alone.
func Put(t api.Table, words ...string) (api.Table, api.Errno) {
	t = Clone(t)
	e := put(&t, words)
	return t, e
}

// put: likewise, to the table itself, which stays as it is, if there is an error.
func put(t *api.Table, words []string) api.Errno {
	if len(words) == 0 {
		return api.ErrForm
	}
	rest := words[1:]
	switch words[0] {
	case limitHead:
		return putNumber(&t.Limit, rest, word.Int)
	case roundHead:
		return putNumber(&t.Round, rest, Mode)
	case schemeHead:
		return putScheme(t, rest)
	case contribHead:
		return putContrib(t, rest)
	case kindHead:
		return putKind(t, rest)
	}
	return api.ErrForm
}

// putNumber: what the only word behind a line's first one says, as a function reads it.
func putNumber(to *int, words []string, read func(w string) (int, api.Errno)) api.Errno {
	if len(words) != 1 {
		return api.ErrForm
	}
	n, e := read(words[0])
	if e == api.OK {
		*to = n
	}
	return e
}

// putScheme, putContrib, putKind: what the words behind a line's first one say, at the end.
func putScheme(t *api.Table, words []string) api.Errno {
	if !banded(words, schemeSides) {
		return api.ErrForm
	}
	r := reader{}
	if bands := r.bands(words); r.e == api.OK {
		t.Schemes = append(t.Schemes, bands)
	}
	return r.e
}

func putContrib(t *api.Table, words []string) api.Errno {
	if len(words) < contribWords || !banded(words[contribWords:], contribSides) {
		return api.ErrForm
	}
	base, ok := wordBase(words[1])
	if !ok {
		return api.ErrForm
	}
	r := reader{}
	c := api.Contrib{Name: strings.Clone(words[0]), Base: base}
	c.Round = r.mode(words[2])
	c.PeriodCeil = r.amount(words[3])
	c.YearCeil = r.amount(words[4])
	c.Bands = r.bands(words[contribWords:])
	if r.e == api.OK {
		t.Contribs = append(t.Contribs, c)
	}
	return r.e
}

func putKind(t *api.Table, words []string) api.Errno {
	if len(words) != kindWords {
		return api.ErrForm
	}
	cash, inCash := wordSign(words[1])
	taxable, inTaxable := wordSign(words[2])
	social, inSocial := wordSign(words[3])
	if !inCash || !inTaxable || !inSocial {
		return api.ErrForm
	}
	t.Kinds = append(t.Kinds, api.Kind{Name: strings.Clone(words[0]), Cash: cash, Taxable: taxable, Social: social})
	return api.OK
}

// banded: are all words bands by their form, with so many sides? What stands on the sides a reader tells.
func banded(words []string, sides int) bool {
	for _, w := range words {
		if strings.Count(w, within) != sides-1 {
			return false
		}
	}
	return true
}

// reader reads words, one by one; the first error stays.
type reader struct{ e api.Errno }

// note: an error, if there is none so far.
func (r *reader) note(e api.Errno) {
	if r.e == api.OK {
		r.e = e
	}
}

// number, amount, mode, bands: what words tell.
func (r *reader) number(w string) int {
	n, e := word.Int(w)
	r.note(e)
	return n
}

func (r *reader) amount(w string) int64 {
	x, e := money.Parse(w)
	r.note(e)
	return x
}

func (r *reader) mode(w string) int {
	mode, e := Mode(w)
	r.note(e)
	return mode
}

func (r *reader) bands(words []string) []api.Band {
	var list []api.Band
	for _, w := range words {
		sides := strings.Split(w, within)
		b := api.Band{From: r.amount(sides[0]), Rate: r.number(sides[1])}
		if len(sides) == contribSides {
			b.Employer = r.number(sides[2])
		}
		list = append(list, b)
	}
	return list
}

// Read: the table of lines, each of which is put to it; or the number of the first wrong one, from 1 on, and why; 0, and Check's error, if the table may not be.
func Read(lines ...string) (api.Table, int, api.Errno) {
	t := api.Table{}
	for i, line := range lines {
		if e := readLine(&t, line); e != api.OK {
			return api.Table{}, i + 1, e
		}
	}
	if e := Check(t); e != api.OK {
		return api.Table{}, 0, e
	}
	return t, 0, api.OK
}

// readLine: what a line says, put to a table.
func readLine(t *api.Table, line string) api.Errno {
	words, e := word.Cut(line)
	if e != api.OK || len(words) == 0 {
		return e
	}
	if e := put(t, words); e != api.OK {
		return e
	}
	if len(t.Schemes) > MaxSchemes || len(t.Contribs) > MaxContribs || len(t.Kinds) > MaxKinds {
		return api.ErrLong
	}
	return api.OK
}

// Change is a line that a table has no more, or has anew.
type Change struct {
	New  bool
	Line string
}

// Diff: by which lines a table differs from another one, both of which may be: those that go first, as they stand, then those that come; a line that stands more often counts so often.
func Diff(from, to api.Table) []Change {
	was, is := Lines(from), Lines(to)
	var list []Change
	for _, line := range more(was, is) {
		list = append(list, Change{Line: line})
	}
	for _, line := range more(is, was) {
		list = append(list, Change{New: true, Line: line})
	}
	return list
}

// more: what a list has more often than another one, in order: of like things the last ones.
func more[T comparable](list, other []T) []T {
	count := map[T]int{}
	for _, x := range other {
		count[x]++
	}
	var over []T
	for _, x := range list {
		count[x]--
		if count[x] < 0 {
			over = append(over, x)
		}
	}
	return over
}
