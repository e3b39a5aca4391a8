package merkle_test

import (
	"encoding/binary"
	"errors"
	"fmt"
	"math"
	"slices"
	"strings"
	"testing"

	"cohort/api"
	"cohort/book"
	"cohort/fault"
	"cohort/merkle"
)

// The errors as they are told.
const (
	arg   = "merkle 0: cohort: error 1"
	root  = "merkle 0: cohort: error 61"
	shape = "merkle 0: cohort: error 62"
	full  = "merkle 1: book 65536: cohort: error 2"
)

// text and num are wire's bytes as its chapter tells them, so that no test leans on the program's own way to write them.
func text(s string) string {
	return string(binary.BigEndian.AppendUint32(nil, uint32(len(s)))) + s
}

func num(n int) string { return string(binary.BigEndian.AppendUint64(nil, uint64(n))) }

func leafText(e api.Entry) string {
	return text("leaf") + text(e.Key) + text(e.Value) + num(int(e.Version))
}

func nodeText(left, right int) string { return text("node") + num(left) + num(right) }

func rootText(many, top int) string { return text("root") + num(many) + num(top) }

// scribe does by the chapter's words what the program does with a book: it keeps the texts that came, in their order.
type scribe struct{ texts []string }

func (s *scribe) ask(t string) int {
	if at := slices.Index(s.texts, t); at >= 0 {
		return at
	}
	s.texts = append(s.texts, t)
	return len(s.texts) - 1
}

// cut is how many leaves of so many the first part has.
func cut(many int) int {
	k := 1
	for 2*k < many {
		k *= 2
	}
	return k
}

func (s *scribe) top(l []api.Entry) int {
	switch len(l) {
	case 0:
		return s.ask(text("none"))
	case 1:
		return s.ask(leafText(l[0]))
	}
	k := cut(len(l))
	left := s.top(l[:k])
	return s.ask(nodeText(left, s.top(l[k:])))
}

func (s *scribe) root(l []api.Entry) int { return s.ask(rootText(len(l), s.top(l))) }

// beside is the tops beside the leaves from first on, up to behind, of a part of the tree that begins at a place.
func (s *scribe) beside(l []api.Entry, at, first, behind int) []int {
	if first >= behind || behind <= at || first >= at+len(l) {
		return []int{s.top(l)}
	}
	if len(l) == 1 {
		return nil
	}
	k := cut(len(l))
	left := s.beside(l[:k], at, first, behind)
	return append(left, s.beside(l[k:], at+k, first, behind)...)
}

func (s *scribe) prove(l []api.Entry, first, many int) api.Proof {
	return api.Proof{Many: len(l), First: first, L: l[first : first+many], Beside: s.beside(l, 0, first, first+many)}
}

// makes is the root that a proof of the right form makes.
func (s *scribe) makes(p api.Proof) int {
	rest := p.Beside
	var part func(at, many int) int
	part = func(at, many int) int {
		switch {
		case len(p.L) == 0 || p.First >= at+many || p.First+len(p.L) <= at:
			d := rest[0]
			rest = rest[1:]
			return d
		case many == 1:
			return s.ask(leafText(p.L[at-p.First]))
		}
		k := cut(many)
		left := part(at, k)
		return s.ask(nodeText(left, part(at+k, many-k)))
	}
	top := part(0, p.Many)
	return s.ask(rootText(p.Many, top))
}

// entries are so many, of keys that leave some between them: 0001, 0003, 0005 and so on.
func entries(many int) []api.Entry {
	l := make([]api.Entry, many)
	for i := range l {
		l[i] = api.Entry{Key: fmt.Sprintf("%04d", 2*i+1), Value: fmt.Sprint("v", i), Version: int64(i + 1)}
	}
	return l
}

// of are entries of just these keys.
func of(keys ...string) []api.Entry {
	var l []api.Entry
	for i, k := range keys {
		l = append(l, api.Entry{Key: k, Value: "v" + k, Version: int64(i + 1)})
	}
	return l
}

// texts are all that a book has.
func texts(t *testing.T, b *book.Book) []string {
	t.Helper()
	var l []string
	for d := range b.Many() {
		s, err := b.Text(d)
		if err != nil {
			t.Fatal(err)
		}
		l = append(l, string(s))
	}
	return l
}

func alike(p, q api.Proof) bool {
	return p.Many == q.Many && p.First == q.First && slices.Equal(p.L, q.L) && slices.Equal(p.Beside, q.Beside)
}

func told(err error, want string) bool {
	return fault.Text(err) == want && (err == nil) == (want == "")
}

func rootOf(t *testing.T, b *book.Book, l []api.Entry) int {
	t.Helper()
	d, err := merkle.Root(b, l)
	if err != nil {
		t.Fatal(len(l), err)
	}
	return d
}

func proofOf(t *testing.T, b *book.Book, l []api.Entry, first, many int) api.Proof {
	t.Helper()
	p, err := merkle.Prove(b, l, first, many)
	if err != nil {
		t.Fatal(len(l), first, many, err)
	}
	return p
}

// rooted holds a root against what the scribe makes, and the book's texts against his.
func rooted(t *testing.T, l []api.Entry) {
	t.Helper()
	b, s := book.New(), &scribe{}
	want := s.root(l)
	d, err := merkle.Root(b, l)
	if d != want || err != nil {
		t.Errorf("root of %d: %d, error %v, not %d", len(l), d, err, want)
	}
	if !slices.Equal(texts(t, b), s.texts) {
		t.Errorf("root of %d: %d texts, not %d, or other ones", len(l), b.Many(), len(s.texts))
	}
}

// proven holds a proof, and that it is taken, against what the scribe makes; each call has a book of its own, so that all that it asks for is seen.
func proven(t *testing.T, l []api.Entry, first, many int) {
	t.Helper()
	b, s := book.New(), &scribe{}
	want := s.prove(l, first, many)
	p, err := merkle.Prove(b, l, first, many)
	if err != nil || !alike(p, want) || !slices.Equal(texts(t, b), s.texts) {
		t.Errorf("%d from %d of %d: %v beside, error %v, not %v; %d texts, not %d", many, first, len(l), p.Beside, err, want.Beside, b.Many(), len(s.texts))
	}
	made := s.root(l)
	if d := rootOf(t, b, l); d != made {
		t.Errorf("root %d, not %d", d, made)
	}
	if err := merkle.Check(b, made, p); err != nil {
		t.Errorf("%d from %d of %d: not taken: %v", many, first, len(l), err)
	}
	if !slices.Equal(texts(t, b), s.texts) {
		t.Errorf("%d from %d of %d: checking asked for more than the root", many, first, len(l))
	}
	checkedAlone(t, p)
}

// checkedAlone holds the root that a proof makes, in a book that knows nothing of it, against what the scribe makes.
func checkedAlone(t *testing.T, p api.Proof) {
	t.Helper()
	b, s := book.New(), &scribe{}
	made := s.makes(p)
	if err := merkle.Check(b, made, p); err != nil || !slices.Equal(texts(t, b), s.texts) {
		t.Errorf("%d from %d of %d: %v; %d texts, not %d, or other ones", len(p.L), p.First, p.Many, err, b.Many(), len(s.texts))
	}
	if err := merkle.Check(b, made+1, p); !told(err, root) {
		t.Errorf("%d from %d of %d, of another root: %q", len(p.L), p.First, p.Many, fault.Text(err))
	}
}

// P6.1 (F1): what the book is asked for, spelt byte by byte; the chapter's example is the first.
func TestRootSpelt(t *testing.T) {
	leaf := func(key, rest string) string { return "\x00\x00\x00\x04leaf\x00\x00\x00\x01" + key + rest }
	v := "\x00\x00\x00\x02v%s\x00\x00\x00\x00\x00\x00\x00%c"
	a := leaf("a", fmt.Sprintf(v, "a", 1))
	b := leaf("b", fmt.Sprintf(v, "b", 2))
	c := leaf("c", fmt.Sprintf(v, "c", 3))
	d := leaf("d", fmt.Sprintf(v, "d", 4))
	e := leaf("e", fmt.Sprintf(v, "e", 5))
	zeros := "\x00\x00\x00\x00\x00\x00\x00"
	two := func(of string, x, y byte) string {
		return "\x00\x00\x00\x04" + of + zeros + string([]byte{x}) + zeros + string([]byte{y})
	}
	for _, x := range []struct {
		keys  string
		asked []string
	}{
		{"", []string{"\x00\x00\x00\x04none", two("root", 0, 0)}},
		{"a", []string{a, two("root", 1, 0)}},
		{"ab", []string{a, b, two("node", 0, 1), two("root", 2, 2)}},
		{"abc", []string{a, b, two("node", 0, 1), c, two("node", 2, 3), two("root", 3, 4)}},
		{"abcd", []string{a, b, two("node", 0, 1), c, d, two("node", 3, 4), two("node", 2, 5), two("root", 4, 6)}},
		{"abcde", []string{a, b, two("node", 0, 1), c, d, two("node", 3, 4), two("node", 2, 5), e, two("node", 6, 7), two("root", 5, 8)}},
	} {
		book := book.New()
		got, err := merkle.Root(book, of(strings.Split(x.keys, "")...))
		if got != len(x.asked)-1 || err != nil {
			t.Errorf("%q: %d, error %v", x.keys, got, err)
		}
		if l := texts(t, book); !slices.Equal(l, x.asked) {
			t.Errorf("%q: asked for %q", x.keys, l)
		}
	}
}

// P6.1 (F1): roots of no entry and more, of powers of two, one fewer and one more, up to as many as there may be.
func TestRoot(t *testing.T) {
	for many := range 70 {
		rooted(t, entries(many))
	}
	for _, many := range []int{127, 128, 129, 255, 256, 257, 511, 512, 513, 1000, api.MaxRow - 1, api.MaxRow} {
		rooted(t, entries(many))
	}
	rooted(t, nil)
	rooted(t, []api.Entry{})
}

// P6.1 (F1): keys and values at their edges, and versions of any kind, are right; bytes count, not letters.
func TestRootOfEdges(t *testing.T) {
	for _, l := range [][]api.Entry{
		{{}},
		{{Version: -1}},
		{{Version: math.MinInt64}, {Key: "\x00", Version: math.MaxInt64}},
		of("", "\x00", "\x00\x00", "\x00\x01", "\x01"),
		of("", "Z", "a", "a\x00", "aa", "b"),
		of("a", "z", "\x7f", "\x80", "\xc3\xa9", "\xff", "\xff\xff"),
		of(strings.Repeat("k", api.MaxKey-1), strings.Repeat("k", api.MaxKey)),
		of(strings.Repeat("\xff", api.MaxKey)[:15], strings.Repeat("\xff", api.MaxKey)),
		{{Key: "a", Value: strings.Repeat("v", api.MaxValue)}, {Key: "b", Value: strings.Repeat("\xff", api.MaxValue)}},
	} {
		rooted(t, l)
		for first := range len(l) + 1 {
			for many := range len(l) - first + 1 {
				proven(t, l, first, many)
			}
		}
	}
}

// wrongLists are entries that are not right, each in one way.
func wrongLists() map[string][]api.Entry {
	long := entries(5)
	long[4].Value = strings.Repeat("v", api.MaxValue+1)
	early := entries(5)
	early[0].Value = strings.Repeat("v", api.MaxValue+1)
	return map[string][]api.Entry{
		"one more than MaxRow":   entries(api.MaxRow + 1),
		"far more":               entries(3 * api.MaxRow),
		"a long key":             of(strings.Repeat("k", api.MaxKey+1)),
		"a long key at the end":  of("a", "b", strings.Repeat("k", api.MaxKey+1)),
		"a very long key":        of(strings.Repeat("k", 1<<17)),
		"a long value":           {{Key: "a", Value: strings.Repeat("v", api.MaxValue+1)}},
		"a long value at first":  early,
		"a long value at last":   long,
		"a very long value":      {{Key: "a", Value: strings.Repeat("v", 1<<17)}},
		"alike":                  of("a", "a"),
		"alike at the end":       of("a", "b", "b"),
		"both empty":             of("", ""),
		"falling":                of("b", "a"),
		"falling at the end":     of("a", "c", "b"),
		"falling in the midst":   of("a", "c", "b", "d", "e"),
		"an empty one behind":    of("a", ""),
		"falling by a byte":      of("aa", "a"),
		"falling above letters":  of("\xff", "z"),
		"falling to one of long": of("\xc3\xa9", "z", "zz"),
	}
}

// P6.1 (F1, F2), P2: of entries that are not right there is no root, no proof and none that is taken; the book is asked nothing.
func TestEntriesThatAreNotRight(t *testing.T) {
	for name, l := range wrongLists() {
		b := book.New()
		if d, err := merkle.Root(b, l); d != -1 || !told(err, arg) {
			t.Errorf("%s: root %d, error %q", name, d, fault.Text(err))
		}
		for _, x := range [][2]int{{0, 0}, {0, 1}, {0, len(l)}, {1, 1}, {len(l), 0}, {-1, 0}, {0, len(l) + 1}} {
			if p, err := merkle.Prove(b, l, x[0], x[1]); !alike(p, api.Proof{}) || !told(err, arg) {
				t.Errorf("%s: proof of %v: %v, error %q", name, x, p, fault.Text(err))
			}
		}
		refused(t, b, 0, api.Proof{Many: len(l), L: l}, shape)
		refused(t, b, 0, api.Proof{Many: api.MaxRow, L: l, Beside: []int{0}}, shape)
		if b.Many() != 0 {
			t.Errorf("%s: the book was asked", name)
		}
	}
}

// refused holds that a proof is not taken, by Check, Has and Range alike, and why.
func refused(t *testing.T, b *book.Book, d int, p api.Proof, why string) {
	t.Helper()
	if err := merkle.Check(b, d, p); !told(err, why) {
		t.Errorf("of %d: %q, not %q", d, fault.Text(err), why)
	}
	keys := []string{"", "a", "0001", "0004", "zzzz"}
	for _, e := range p.L[:min(len(p.L), 3)] {
		keys = append(keys, e.Key)
	}
	for _, key := range keys {
		if e, is, err := merkle.Has(b, d, key, p); e != (api.Entry{}) || is || !told(err, why) {
			t.Errorf("has %q of %d: %v, %v, %q, not %q", key, d, e, is, fault.Text(err), why)
		}
		if l, err := merkle.Range(b, d, "", key, p); len(l) != 0 || !told(err, why) {
			t.Errorf("range up to %q of %d: %v, %q, not %q", key, d, l, fault.Text(err), why)
		}
	}
}

// P6.1 (F1), P6.3: proofs of all leaves from any one on, of all, of none, of one in the midst; each is the one that the chapter tells, and is taken.
func TestProve(t *testing.T) {
	for many := range 19 {
		l := entries(many)
		for first := range many + 1 {
			for some := range many - first + 1 {
				proven(t, l, first, some)
			}
		}
	}
	for _, many := range []int{31, 32, 33, 100} {
		l := entries(many)
		for first := range many + 1 {
			proven(t, l, first, 0)
			proven(t, l, first, many-first)
			proven(t, l, first, (many-first)/2)
			if first < many {
				proven(t, l, first, 1)
			}
		}
	}
	l := entries(api.MaxRow)
	for _, x := range [][2]int{{0, 0}, {0, api.MaxRow}, {511, 2}, {api.MaxRow - 1, 1}, {api.MaxRow, 0}} {
		proven(t, l, x[0], x[1])
	}
}

// P6.1 (F1): what a proof has beside, and that the book is asked for that alone, spelt; numbers are the places of what is asked for.
func TestProveSpelt(t *testing.T) {
	l := entries(5)
	leaf := func(i int) string { return leafText(l[i]) }
	left := []string{leaf(0), leaf(1), nodeText(0, 1)}
	for _, x := range []struct {
		first, many int
		beside      []int
		asked       []string
	}{
		{0, 5, nil, nil},
		{0, 4, []int{0}, []string{leaf(4)}},
		{1, 4, []int{0}, []string{leaf(0)}},
		{4, 1, []int{6}, slices.Concat(left, []string{leaf(2), leaf(3), nodeText(3, 4), nodeText(2, 5)})},
		{1, 2, []int{0, 1, 2}, []string{leaf(0), leaf(3), leaf(4)}},
		{2, 1, []int{2, 3, 4}, slices.Concat(left, []string{leaf(3), leaf(4)})},
		{2, 2, []int{2, 3}, slices.Concat(left, []string{leaf(4)})},
		{3, 2, []int{2, 3}, slices.Concat(left, []string{leaf(2)})},
		{0, 1, []int{0, 3, 4}, []string{leaf(1), leaf(2), leaf(3), nodeText(1, 2), leaf(4)}},
		{3, 0, []int{8}, slices.Concat(left, []string{leaf(2), leaf(3), nodeText(3, 4), nodeText(2, 5), leaf(4), nodeText(6, 7)})},
	} {
		b := book.New()
		p, err := merkle.Prove(b, l, x.first, x.many)
		if err != nil || !alike(p, api.Proof{Many: 5, First: x.first, L: l[x.first : x.first+x.many], Beside: x.beside}) {
			t.Errorf("%d from %d: %v, error %v", x.many, x.first, p, err)
		}
		if !slices.Equal(texts(t, b), x.asked) {
			t.Errorf("%d from %d: asked for %q", x.many, x.first, texts(t, b))
		}
	}
	b := book.New()
	if p, err := merkle.Prove(b, nil, 0, 0); err != nil || !alike(p, api.Proof{Beside: []int{0}}) || !slices.Equal(texts(t, b), []string{text("none")}) {
		t.Errorf("none of none: %v, error %v, asked for %q", p, err, texts(t, b))
	}
}

// P6.1 (F1): places that are not there, also such whose sum is more than an int holds.
func TestProveOfPlacesThatAreNot(t *testing.T) {
	for _, many := range []int{0, 1, 2, 5, 8, api.MaxRow} {
		b, l := book.New(), entries(many)
		for _, x := range [][2]int{
			{-1, 0}, {0, -1}, {-1, 1}, {1, -1}, {-1, -1}, {-1, many + 1}, {many + 1, -1},
			{0, many + 1}, {1, many}, {many, 1}, {many + 1, 0}, {many, many + 1},
			{math.MaxInt, 0}, {0, math.MaxInt}, {math.MaxInt, 1}, {1, math.MaxInt}, {math.MaxInt, math.MaxInt}, {math.MaxInt, math.MinInt},
			{math.MinInt, 0}, {0, math.MinInt}, {math.MinInt, math.MaxInt}, {math.MinInt, math.MinInt}, {math.MaxInt - 1, 3}, {1 << 32, 0}, {0, 1 << 32},
		} {
			if p, err := merkle.Prove(b, l, x[0], x[1]); !alike(p, api.Proof{}) || !told(err, arg) {
				t.Errorf("%v of %d: %v, error %q", x, many, p, fault.Text(err))
			}
		}
		if b.Many() != 0 {
			t.Errorf("of %d: the book was asked", many)
		}
	}
}

// P6.1 (F2): a proof that has no proof's form is refused ahead of all that the book is asked; one that has it is taken, if the root is its own.
func TestCheckOfForms(t *testing.T) {
	l := entries(5)
	for name, p := range map[string]api.Proof{
		"Many below 0":          {Many: -1, Beside: []int{0}},
		"Many far below 0":      {Many: math.MinInt, Beside: []int{0}},
		"Many far below, some":  {Many: math.MinInt, L: l, Beside: []int{0}},
		"Many above MaxRow":     {Many: api.MaxRow + 1, Beside: []int{0}},
		"Many far above":        {Many: math.MaxInt, Beside: []int{0}},
		"Many far above, all":   {Many: math.MaxInt, L: l, Beside: make([]int, 60)},
		"First below 0":         {Many: 5, First: -1, L: l, Beside: nil},
		"First far below 0":     {Many: 5, First: math.MinInt, L: l, Beside: nil},
		"First below, L empty":  {Many: 5, First: -1, Beside: []int{0}},
		"First above Many":      {Many: 5, First: 6, Beside: []int{0}},
		"First above, of none":  {Many: 0, First: 1, Beside: []int{0}},
		"First far above":       {Many: 5, First: math.MaxInt, L: l[:1], Beside: []int{0}},
		"First far above, some": {Many: 5, First: math.MaxInt - 1, L: l[:3], Beside: []int{0}},
		"First far above, none": {Many: 5, First: math.MaxInt, Beside: []int{0}},
		"together above Many":   {Many: 5, First: 1, L: l, Beside: []int{0}},
		"one above Many":        {Many: 5, First: 5, L: l[:1], Beside: []int{0}},
		"L more than Many":      {Many: 4, L: l},
		"L of none":             {Many: 0, L: l[:1]},
		"none beside none":      {Many: 0},
		"two beside none":       {Many: 0, Beside: []int{0, 1}},
		"none beside the whole": {Many: 5},
		"two beside the whole":  {Many: 5, Beside: []int{0, 1}},
		"one beside all":        {Many: 5, L: l, Beside: []int{0}},
		"one below 0, of none":  {Many: 0, Beside: []int{-1}},
		"one below 0":           {Many: 5, L: l[:4], Beside: []int{-1}},
		"one far below 0":       {Many: 5, L: l[:4], Beside: []int{math.MinInt}},
		"a zero one":            {},
	} {
		b := book.New()
		refused(t, b, 0, p, shape)
		refused(t, b, -1, p, shape)
		if b.Many() != 0 {
			t.Errorf("%s: the book was asked", name)
		}
	}
	for _, p := range []api.Proof{
		{Many: 0, Beside: []int{0}},
		{Many: 0, Beside: []int{math.MaxInt}},
		{Many: 1, L: l[:1]},
		{Many: 1, First: 1, Beside: []int{9}},
		{Many: 5, First: 0, Beside: []int{0}},
		{Many: 5, First: 5, Beside: []int{0}},
		{Many: 5, First: 4, L: l[:1], Beside: []int{0}},
		{Many: 6, First: 2, L: l[:2], Beside: []int{7, 7}},
		{Many: 8, First: 2, L: l[:2], Beside: []int{1 << 40, 3}},
		{Many: api.MaxRow, First: api.MaxRow, Beside: []int{5}},
		{Many: api.MaxRow, First: 512, L: l[:1], Beside: make([]int, 10)},
		{Many: api.MaxRow, L: entries(api.MaxRow)},
	} {
		checkedAlone(t, p)
	}
}

// P6.1 (F2), P6.2: of a proof one more beside, one fewer, one below 0, one changed, two that changed places; another place or number of leaves; another root.
func TestProofsThatAreChanged(t *testing.T) {
	for many := 1; many <= 9; many++ {
		b, l := book.New(), entries(many)
		made := rootOf(t, b, l)
		for first := range many + 1 {
			for some := range many - first + 1 {
				p := proofOf(t, b, l, first, some)
				changedBeside(t, b, made, p)
				changedLeaves(t, b, made, p)
				for _, other := range []int{-1, made - 1, made + 1, math.MinInt, math.MaxInt} {
					refused(t, b, other, p, root)
				}
			}
		}
	}
}

func changedBeside(t *testing.T, b *book.Book, made int, p api.Proof) {
	t.Helper()
	good := p.Beside
	for at := range len(good) + 1 {
		p.Beside = slices.Insert(slices.Clone(good), at, 0)
		refused(t, b, made, p, shape)
	}
	for at := range good {
		p.Beside = slices.Delete(slices.Clone(good), at, at+1)
		refused(t, b, made, p, shape)
		p.Beside = slices.Clone(good)
		for _, d := range []int{-1, math.MinInt} {
			p.Beside[at] = d
			refused(t, b, made, p, shape)
		}
		for _, d := range []int{good[at] + 1, made, math.MaxInt, good[at] + 1<<32} {
			p.Beside[at] = d
			refused(t, b, made, p, root)
		}
		if at > 0 {
			p.Beside[at-1], p.Beside[at] = good[at], good[at-1]
			refused(t, b, made, p, root)
		}
	}
}

func changedLeaves(t *testing.T, b *book.Book, made int, p api.Proof) {
	t.Helper()
	good := p
	for at := range p.L {
		for _, change := range []func(e *api.Entry){
			func(e *api.Entry) { e.Key += "0" },
			func(e *api.Entry) { e.Value += "0" },
			func(e *api.Entry) { e.Value = "" },
			func(e *api.Entry) { e.Version++ },
			func(e *api.Entry) { e.Version = -e.Version },
			func(e *api.Entry) { e.Key, e.Value = e.Key+"v", e.Value[1:] },
		} {
			p.L = slices.Clone(good.L)
			change(&p.L[at])
			refused(t, b, made, p, root)
		}
		p.L = slices.Delete(slices.Clone(good.L), at, at+1)
		if merkle.Check(b, made, p) == nil {
			t.Errorf("taken without its %d. leaf: %v", at, p)
		}
	}
	p = good
	for _, p.Many = range []int{good.Many - 1, good.Many + 1, 2 * good.Many} {
		if merkle.Check(b, made, p) == nil {
			t.Errorf("taken as one of %d: %v", p.Many, good)
		}
	}
	p = good
	for p.First = range p.Many + 1 {
		// Where nothing is proven, it is so from any place on.
		if err := merkle.Check(b, made, p); (err == nil) != (p.First == good.First || len(p.L) == 0) {
			t.Errorf("as one from %d on: %v: %v", p.First, good, err)
		}
	}
}

// P6.2: of all proofs that can be put together of few entries, right and wrong ones, and of all digests that there are, one that is taken has the entries themselves, from First on.
func TestNothingElse(t *testing.T) {
	taken := 0
	for many := range 4 {
		l := of([]string{"b", "d", "f"}[:many]...)
		b := book.New()
		made := rootOf(t, b, l)
		digests := b.Many()
		other := []api.Entry{{Key: "a", Value: "va", Version: 1}, {Key: "b", Value: "va", Version: 1}, {Key: "b", Value: "vb", Version: 2}, {Key: "d", Value: "vd", Version: 1}}
		forAll(append(other, l...), func(leaves []api.Entry) {
			for places := range 5 {
				for first := range places - len(leaves) + 1 {
					p := api.Proof{Many: places, First: first, L: leaves}
					forBeside(p, digests, func(beside []int) {
						p.Beside = beside
						err := merkle.Check(b, made, p)
						if fault.Is(err, api.ErrTooMany) {
							t.Fatal("the book is full")
						}
						if err != nil {
							return
						}
						taken++
						if places != many || !slices.Equal(leaves, l[first:first+len(leaves)]) {
							t.Errorf("of %d entries: taken: %v", many, p)
						}
					})
				}
			}
		})
	}
	// Of no entries there is one proof, of one three, of two six, of three ten: from each place on of none up to all.
	if taken != 1+3+6+10 {
		t.Errorf("%d were taken", taken)
	}
}

// forAll does something with each choice of at most four entries, by rising keys.
func forAll(l []api.Entry, do func([]api.Entry)) {
	for mask := range 1 << len(l) {
		var some []api.Entry
		for i, e := range l {
			if mask>>i&1 == 1 {
				some = append(some, e)
			}
		}
		slices.SortStableFunc(some, func(x, y api.Entry) int { return strings.Compare(x.Key, y.Key) })
		if len(some) <= 4 {
			do(some)
		}
	}
}

// forBeside does something with each list of digests that is as long as a proof's must be.
func forBeside(p api.Proof, digests int, do func([]int)) {
	var part func(at, many int) int
	part = func(at, many int) int {
		if len(p.L) == 0 || p.First >= at+many || p.First+len(p.L) <= at {
			return 1
		}
		if many == 1 {
			return 0
		}
		return part(at, cut(many)) + part(at+cut(many), many-cut(many))
	}
	all := 1
	long := part(0, p.Many)
	for range long {
		all *= digests
	}
	for n := range all {
		beside := make([]int, long)
		for i := range beside {
			beside[i] = n % digests
			n /= digests
		}
		do(beside)
	}
}

// P6.2: a node's digest is no leaf's, a leaf's text no node's: a proof of a shorter or a taller tree is not taken.
func TestTreesOfOtherHeights(t *testing.T) {
	b, l := book.New(), entries(8)
	made := rootOf(t, b, l)
	top := proofOf(t, b, l, 0, 0).Beside[0]
	left := proofOf(t, b, l, 4, 4).Beside[0]
	right := proofOf(t, b, l, 0, 4).Beside[0]
	for _, p := range []api.Proof{
		{Many: 1, Beside: []int{top}},
		{Many: 2, Beside: []int{top}},
		{Many: 1, L: of("a"), Beside: nil},
		{Many: 7, Beside: []int{top}},
		{Many: 9, Beside: []int{top}},
		{Many: 4, First: 0, L: l[:4]},
		{Many: 5, First: 4, L: l[4:5], Beside: []int{left}},
		{Many: 2, First: 1, L: l[4:5], Beside: []int{left}},
		{Many: 8, First: 0, L: l[4:], Beside: []int{right}},
	} {
		refused(t, b, made, p, root)
	}
	if err := merkle.Check(b, made, api.Proof{Many: 8, Beside: []int{top}}); err != nil {
		t.Error(err)
	}
}

// P6.1 (F3): of each key that is there or not, by each proof: the entry, that there is none, or that the proof does not reach so far.
func TestHas(t *testing.T) {
	for many := range 8 {
		b, l := book.New(), entries(many)
		made := rootOf(t, b, l)
		for first := range many + 1 {
			for behind := first; behind <= many; behind++ {
				p := proofOf(t, b, l, first, behind-first)
				// Keys are 0001, 0003 and so on: the key of the number n stands between the entries n/2 - 1 and n/2, or is that of n/2.
				for n := range 2*many + 1 {
					key, at := fmt.Sprintf("%04d", n), n/2
					e, is, err := merkle.Has(b, made, key, p)
					var want api.Entry
					var there bool
					var why string
					switch {
					case n%2 == 1 && first <= at && at < behind:
						want, there = l[at], true
					case n%2 == 1, many > 0 && first == behind, first > 0 && at <= first, behind < many && at >= behind:
						why = shape
					}
					if e != want || is != there || !told(err, why) {
						t.Errorf("%s by %d to %d of %d: %v, %v, %q, not %v, %v, %q", key, first, behind, many, e, is, fault.Text(err), want, there, why)
					}
				}
			}
		}
	}
}

// P6.1 (F3): spelt: a key that is there, below the first, above the last, between two; an empty one; proofs that do not reach so far.
func TestHasSpelt(t *testing.T) {
	b, l := book.New(), of("c", "e", "g", "i")
	made := rootOf(t, b, l)
	for _, x := range []struct {
		first, many int
		key         string
		at          int // which entry; -1: there is none
		why         string
	}{
		{0, 4, "c", 0, ""}, {0, 4, "i", 3, ""}, {1, 1, "e", 1, ""}, {3, 1, "i", 3, ""},
		{0, 4, "a", -1, ""}, {0, 4, "z", -1, ""}, {0, 4, "d", -1, ""}, {0, 4, "", -1, ""}, {0, 4, "cc", -1, ""}, {0, 4, "C", -1, ""},
		{0, 1, "a", -1, ""}, {0, 1, "", -1, ""}, {3, 1, "z", -1, ""}, {3, 1, "ii", -1, ""}, {3, 1, strings.Repeat("z", 1<<17), -1, ""},
		{1, 2, "f", -1, ""}, {0, 2, "d", -1, ""}, {2, 2, "h", -1, ""},
		{1, 1, "c", -1, shape}, {1, 1, "d", -1, shape}, {1, 1, "f", -1, shape}, {1, 1, "g", -1, shape}, {1, 3, "", -1, shape},
		{0, 3, "z", -1, shape}, {0, 3, "h", -1, shape}, {0, 3, "gg", -1, shape}, {1, 3, "a", -1, shape}, {1, 3, "dd", -1, shape},
		{0, 0, "a", -1, shape}, {4, 0, "z", -1, shape}, {2, 0, "f", -1, shape}, {0, 0, "", -1, shape},
	} {
		p := proofOf(t, b, l, x.first, x.many)
		e, is, err := merkle.Has(b, made, x.key, p)
		var want api.Entry
		if x.at >= 0 {
			want = l[x.at]
		}
		if e != want || is != (x.at >= 0) || !told(err, x.why) {
			t.Errorf("%.20q by %d from %d: %v, %v, %q", x.key, x.many, x.first, e, is, fault.Text(err))
		}
	}
	none := book.New()
	made = rootOf(t, none, nil)
	for _, key := range []string{"", "a", "\xff"} {
		if e, is, err := merkle.Has(none, made, key, proofOf(t, none, nil, 0, 0)); e != (api.Entry{}) || is || err != nil {
			t.Errorf("%q of none: %v, %v, %v", key, e, is, err)
		}
	}
	empty := of("", "a")
	made = rootOf(t, b, empty)
	if e, is, err := merkle.Has(b, made, "", proofOf(t, b, empty, 0, 1)); e != empty[0] || !is || err != nil {
		t.Errorf("an empty key: %v, %v, %v", e, is, err)
	}
	// A zero entry is there, or is not, as the bool says.
	zero := []api.Entry{{}}
	made = rootOf(t, b, zero)
	if e, is, err := merkle.Has(b, made, "", proofOf(t, b, zero, 0, 1)); e != (api.Entry{}) || !is || err != nil {
		t.Errorf("a zero entry: %v, %v, %v", e, is, err)
	}
}

// P6.1 (F4), P6.4: of each range, by each proof: all entries that there are from from up to to, or that the proof does not reach so far.
func TestRange(t *testing.T) {
	for many := range 6 {
		b, l := book.New(), entries(many)
		made := rootOf(t, b, l)
		var keys []string
		for n := range 2*many + 1 {
			keys = append(keys, fmt.Sprintf("%04d", n))
		}
		keys = append(keys, "")
		for first := range many + 1 {
			for behind := first; behind <= many; behind++ {
				p := proofOf(t, b, l, first, behind-first)
				for _, from := range keys {
					for _, to := range keys {
						ranged(t, b, made, l, p, from, to)
					}
				}
			}
		}
	}
}

// ranged holds a range against all entries: what is told is all of it, and it is told wherever the proof's neighbours show that.
func ranged(t *testing.T, b *book.Book, made int, l []api.Entry, p api.Proof, from, to string) {
	t.Helper()
	var all []api.Entry
	for _, e := range l {
		if from <= e.Key && (to == "" || e.Key < to) {
			all = append(all, e)
		}
	}
	below, above := p.First == 0, p.First+len(p.L) == len(l)
	if len(p.L) > 0 {
		below = below || p.L[0].Key < from
		above = above || to != "" && p.L[len(p.L)-1].Key >= to
	}
	why := ""
	if !below || !above {
		all, why = nil, shape
	}
	if x, err := merkle.Range(b, made, from, to, p); !slices.Equal(x, all) || !told(err, why) {
		t.Errorf("%q to %q by %d from %d of %d: %v, %q, not %v, %q", from, to, len(p.L), p.First, p.Many, x, fault.Text(err), all, why)
	}
}

// P6.1 (F4): spelt: ranges that are empty, of all, with an empty to, that end ahead of where they begin; proofs that do not reach so far.
func TestRangeSpelt(t *testing.T) {
	b, l := book.New(), of("c", "e", "g", "i")
	made := rootOf(t, b, l)
	for _, x := range []struct {
		first, many int
		from, to    string
		told        string // the keys
		why         string
	}{
		{0, 4, "", "", "cegi", ""}, {0, 4, "c", "", "cegi", ""}, {0, 4, "d", "", "egi", ""}, {0, 4, "", "g", "ce", ""}, {0, 4, "e", "h", "eg", ""}, {0, 4, "i", "", "i", ""}, {0, 4, "j", "", "", ""}, {0, 4, "", "a", "", ""}, {0, 4, "e", "e", "", ""}, {0, 4, "g", "c", "", ""},
		{0, 1, "", "c", "", ""}, {0, 1, "", "a", "", ""}, {0, 2, "", "e", "c", ""}, {0, 2, "a", "d", "c", ""}, {0, 2, "", "f", "", shape}, {0, 2, "", "", "", shape}, {0, 2, "", "ee", "", shape},
		{1, 2, "d", "f", "", shape}, {1, 2, "f", "g", "", ""}, {1, 2, "ee", "g", "", ""}, {1, 2, "e", "g", "", shape}, {1, 2, "ee", "gg", "", shape}, {1, 3, "f", "", "gi", ""}, {1, 3, "e", "", "", shape}, {1, 3, "", "", "", shape}, {3, 1, "j", "", "", ""}, {3, 1, "ii", "z", "", ""}, {3, 1, "i", "", "", shape},
		{0, 0, "", "", "", shape}, {0, 0, "z", "a", "", shape}, {4, 0, "z", "", "", shape}, {2, 0, "f", "f", "", shape}, {2, 1, "h", "g", "", ""}, {2, 1, "h", "a", "", ""},
	} {
		got, err := merkle.Range(b, made, x.from, x.to, proofOf(t, b, l, x.first, x.many))
		keys := ""
		for _, e := range got {
			keys += e.Key
			if e.Value != "v"+e.Key || !slices.Contains(l, e) {
				t.Error(e)
			}
		}
		if keys != x.told || !told(err, x.why) {
			t.Errorf("%q to %q by %d from %d: %q, %q", x.from, x.to, x.many, x.first, keys, fault.Text(err))
		}
	}
	made = rootOf(t, b, nil)
	for _, to := range []string{"", "a"} {
		if x, err := merkle.Range(b, made, "", to, proofOf(t, b, nil, 0, 0)); len(x) != 0 || err != nil {
			t.Errorf("of none: %v, %v", x, err)
		}
	}
}

// P6.4: of as many entries as there may be, all from one to another one, by the proof that has just their neighbours too.
func TestRangeOfMany(t *testing.T) {
	b, l := book.New(), entries(api.MaxRow)
	made := rootOf(t, b, l)
	for _, x := range [][2]int{{0, api.MaxRow}, {1, 2}, {100, 900}, {511, 513}, {1000, api.MaxRow}} {
		from, to := l[x[0]].Key, ""
		first, behind := max(x[0]-1, 0), x[1]
		if behind < len(l) {
			to = l[behind].Key
			behind++
		}
		p := proofOf(t, b, l, first, behind-first)
		if got, err := merkle.Range(b, made, from, to, p); err != nil || !slices.Equal(got, l[x[0]:x[1]]) {
			t.Errorf("%v: %d, %v", x, len(got), err)
		}
	}
}

// P2: Check's error comes ahead of what Has and Range say themselves; what they say then is an Errno of package api, wrapped once.
func TestWhichErrorComesFirst(t *testing.T) {
	b, l := book.New(), entries(4)
	made := rootOf(t, b, l)
	p := proofOf(t, b, l, 2, 1)
	for _, d := range []int{made + 1, -1} {
		_, _, hasErr := merkle.Has(b, d, "0001", p)
		_, rangeErr := merkle.Range(b, d, "0001", "0002", p)
		for _, err := range []error{hasErr, rangeErr} {
			if !told(err, root) || !errors.Is(err, api.ErrRoot) || len(fault.Trail(err)) != 1 {
				t.Errorf("%q", fault.Text(err))
			}
		}
	}
	_, _, hasErr := merkle.Has(b, made, "0001", p)
	_, rangeErr := merkle.Range(b, made, "0001", "0002", p)
	for _, err := range []error{hasErr, rangeErr} {
		if !errors.Is(err, api.ErrShape) || !slices.Equal(fault.Trail(err), []api.Step{{Where: "merkle", At: 0}}) {
			t.Errorf("%q", fault.Text(err))
		}
	}
}

// withRoom is a book that has room for so many texts alone.
func withRoom(t *testing.T, room int) *book.Book {
	t.Helper()
	b := book.New()
	for i := range api.MaxDigests - room {
		if _, err := b.Digest([]byte(fmt.Sprint("filler ", i))); err != nil {
			t.Fatal(err)
		}
	}
	return b
}

// P6.1, P2: a book that refuses, at each text that it is asked for: its error, and nothing else; what it was asked for ahead stays.
func TestBookThatRefuses(t *testing.T) {
	l := entries(3)
	asks := func(do func(*book.Book)) int {
		b := book.New()
		do(b)
		return b.Many()
	}
	p := api.Proof{Many: 4, First: 1, L: l[:2], Beside: []int{5, 6}}
	for name, do := range map[string]func(*book.Book) (bool, error){
		"root":          func(b *book.Book) (bool, error) { d, err := merkle.Root(b, l); return d == -1, err },
		"root of none":  func(b *book.Book) (bool, error) { d, err := merkle.Root(b, nil); return d == -1, err },
		"proof of none": func(b *book.Book) (bool, error) { return isZero(merkle.Prove(b, l, 0, 0)) },
		"proof of some": func(b *book.Book) (bool, error) { return isZero(merkle.Prove(b, l, 2, 1)) },
		"nothing":       func(b *book.Book) (bool, error) { return isZero(merkle.Prove(b, nil, 0, 0)) },
		"check":         func(b *book.Book) (bool, error) { return true, merkle.Check(b, 0, p) },
		"has": func(b *book.Book) (bool, error) {
			e, is, err := merkle.Has(b, 0, l[0].Key, p)
			return e == api.Entry{} && !is, err
		},
		"range": func(b *book.Book) (bool, error) {
			x, err := merkle.Range(b, 0, "", "", p)
			return len(x) == 0, err
		},
	} {
		many := asks(func(b *book.Book) { do(b) })
		if many == 0 {
			t.Fatalf("%s: nothing was asked", name)
		}
		for room := range many {
			b := withRoom(t, room)
			if zero, err := do(b); !zero || !told(err, full) || b.Many() != api.MaxDigests {
				t.Errorf("%s with room for %d: zero: %v, error %q", name, room, zero, fault.Text(err))
			}
		}
		b := withRoom(t, many)
		for range 2 {
			// The second time the book is full, and has all texts already.
			if _, err := do(b); fault.Is(err, api.ErrTooMany) || b.Many() != api.MaxDigests {
				t.Errorf("%s with just room enough: %v", name, err)
			}
		}
	}
}

func isZero(p api.Proof, err error) (bool, error) { return alike(p, api.Proof{}), err }

// P6.1: behind an error of the book nothing more is asked, also where the book could answer: a full one that lacks a leaf alone, and has all that might be made of no digest instead.
func TestNothingIsAskedBehindAnError(t *testing.T) {
	l := entries(2)
	for _, lacks := range l {
		b := withRoom(t, 30)
		for _, e := range l {
			if e != lacks {
				_, _ = b.Digest([]byte(leafText(e)))
			}
		}
		there := b.Many() - 1
		for _, d := range []int{-1, 0} {
			for _, s := range []string{nodeText(there, d), nodeText(d, there), nodeText(d, d), rootText(2, d)} {
				node, _ := b.Digest([]byte(s))
				_, _ = b.Digest([]byte(rootText(2, node)))
			}
		}
		for i := 0; b.Many() < api.MaxDigests; i++ {
			_, _ = b.Digest([]byte(fmt.Sprint("more ", i)))
		}
		if d, err := merkle.Root(b, l); d != -1 || !told(err, full) {
			t.Errorf("root without %v: %d, %q", lacks, d, fault.Text(err))
		}
		if zero, err := isZero(merkle.Prove(b, l, 0, 0)); !zero || !told(err, full) {
			t.Errorf("proof without %v: %q", lacks, fault.Text(err))
		}
		for d := range b.Many() {
			if err := merkle.Check(b, d, api.Proof{Many: 2, L: l}); !told(err, full) {
				t.Fatalf("check without %v: %q", lacks, fault.Text(err))
			}
		}
	}
}

// P6.1: a proof of all asks for nothing, so that a full book does not hinder it.
func TestFullBookThatIsNotAsked(t *testing.T) {
	b, l := withRoom(t, 0), entries(6)
	if p, err := merkle.Prove(b, l, 0, 6); err != nil || !alike(p, api.Proof{Many: 6, L: l}) {
		t.Error(p, err)
	}
	if _, err := merkle.Prove(b, l, 0, 7); !told(err, arg) {
		t.Error(err)
	}
	if _, err := merkle.Root(b, of("b", "a")); !told(err, arg) {
		t.Error(err)
	}
	refused(t, b, 0, api.Proof{Many: 6, L: l, Beside: []int{1}}, shape)
	refused(t, b, 0, api.Proof{Many: 6, L: l}, full)
}

// P3: each call asks anew for all that its words name, whatever was made ahead in another book, or in the same one.
func TestAskedAnew(t *testing.T) {
	l := entries(7)
	var first []string
	for range 3 {
		b := book.New()
		made := rootOf(t, b, l)
		if again := rootOf(t, b, l); again != made {
			t.Errorf("%d, then %d", made, again)
		}
		if first == nil {
			first = texts(t, b)
		}
		if !slices.Equal(first, texts(t, b)) {
			t.Error("another book was asked for other texts")
		}
	}
	// A book that had other texts ahead has other digests; what is proven in one is none in the other.
	b, c := book.New(), book.New()
	if _, err := c.Digest([]byte("x")); err != nil {
		t.Fatal(err)
	}
	p, q := proofOf(t, b, l, 2, 2), proofOf(t, c, l, 2, 2)
	for i, d := range p.Beside {
		if q.Beside[i] != d+1 {
			t.Error(p.Beside, q.Beside)
		}
	}
	made := rootOf(t, c, l)
	if err := merkle.Check(c, made, q); err != nil {
		t.Error(err)
	}
	refused(t, c, made, p, root)
}

// spoil writes over a slice, its spare room too.
func spoil[T any](l []T, with T) {
	l = l[:cap(l)]
	for i := range l {
		l[i] = with
	}
}

// P3: what is handed in is not changed, nor its spare room.
func TestWhatIsHandedInStays(t *testing.T) {
	b, l := book.New(), entries(9)
	want := slices.Clone(l)
	made := rootOf(t, b, l[:6])
	for first := range 7 {
		for many := range 7 - first {
			p := proofOf(t, b, l[:6], first, many)
			beside := append(slices.Clone(p.Beside), 77, 88)
			q := p
			q.L, q.Beside = l[first:first+many], beside[:len(p.Beside)]
			if err := merkle.Check(b, made, q); err != nil {
				t.Error(first, many, err)
			}
			_, _, _ = merkle.Has(b, made, "0004", q)
			_, _ = merkle.Range(b, made, "0002", "", q)
			if !slices.Equal(beside, append(slices.Clone(p.Beside), 77, 88)) || !slices.Equal(l, want) {
				t.Errorf("%d from %d: %v, %v", many, first, beside, l)
			}
		}
	}
}

// P3: what came out may change then, its spare room too, and so may what was handed in: neither is seen in the other.
func TestWhatComesOutIsNew(t *testing.T) {
	b, l := book.New(), entries(9)
	want := slices.Clone(l)
	made := rootOf(t, b, l)
	bad := api.Entry{Key: "bad"}
	for first := range 10 {
		for many := range 10 - first {
			p, q := proofOf(t, b, l, first, many), proofOf(t, b, l, first, many)
			good := slices.Clone(q.Beside)
			spoil(p.L, bad)
			spoil(p.Beside, 99)
			if !slices.Equal(l, want) || !slices.Equal(q.L, want[first:first+many]) || !slices.Equal(q.Beside, good) {
				t.Errorf("%d from %d: a change of one proof is seen elsewhere", many, first)
			}
			spoil(l, bad)
			if !slices.Equal(q.L, want[first:first+many]) {
				t.Errorf("%d from %d: a change of the entries is seen in the proof", many, first)
			}
			copy(l, want)
			if err := merkle.Check(b, made, q); err != nil {
				t.Error(first, many, err)
			}
		}
	}
	p := proofOf(t, b, l, 0, 9)
	x, err := merkle.Range(b, made, "", "", p)
	if err != nil {
		t.Fatal(err)
	}
	y, _ := merkle.Range(b, made, "", "", p)
	spoil(x, bad)
	if !slices.Equal(p.L, want) || !slices.Equal(y, want) {
		t.Error("a change of a range is seen elsewhere")
	}
	spoil(p.L, bad)
	if !slices.Equal(y, want) {
		t.Error("a change of the proof is seen in the range")
	}
}
