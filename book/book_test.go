package book_test

import (
	"bytes"
	"math"
	"slices"
	"strconv"
	"strings"
	"testing"

	"cohort/api"
	"cohort/book"
	"cohort/fault"
)

// of is a book of texts, each of them a new one.
func of(t *testing.T, texts ...string) *book.Book {
	t.Helper()
	b := book.New()
	for i, s := range texts {
		digest(t, b, s, i)
	}
	return b
}

// digest holds a text's digest against what it should be.
func digest(t *testing.T, b *book.Book, s string, want int) {
	t.Helper()
	if d, err := b.Digest([]byte(s)); d != want || err != nil {
		t.Errorf("a text of %d bytes has the digest %d, error %v, not %d", len(s), d, err, want)
	}
}

// refused holds that a text has no digest, in a book of so many texts.
func refused(t *testing.T, b *book.Book, s []byte, many int) {
	t.Helper()
	d, err := b.Digest(s)
	if d != -1 {
		t.Errorf("a text of %d bytes has the digest %d", len(s), d)
	}
	wrong(t, err, api.ErrTooMany, many)
	if b.Many() != many {
		t.Errorf("there are %d texts, not %d", b.Many(), many)
	}
}

// wrong holds that an error is a number wrapped once, by the book and how many texts there are.
func wrong(t *testing.T, err error, e api.Errno, many int) {
	t.Helper()
	if fault.Code(err) != e || !slices.Equal(fault.Trail(err), []api.Step{{Where: "book", At: many}}) {
		t.Errorf("error %q, not %d of a book of %d", fault.Text(err), e, many)
	}
}

// has holds all texts of a book, and how many, against what they should be.
func has(t *testing.T, b *book.Book, texts ...string) {
	t.Helper()
	if b.Many() != len(texts) {
		t.Errorf("there are %d texts, not %d", b.Many(), len(texts))
	}
	for d, want := range texts {
		if s, err := b.Text(d); string(s) != want || err != nil {
			t.Errorf("the text of %d is %.20q, error %v, not %.20q", d, s, err, want)
		}
	}
}

// full is a book of MaxDigests texts, the decimal numbers of their digests.
func full(t *testing.T) *book.Book {
	t.Helper()
	b := book.New()
	for i := range api.MaxDigests {
		if d, err := b.Digest([]byte(strconv.Itoa(i))); d != i || err != nil {
			t.Fatalf("text %d has the digest %d, error %v", i, d, err)
		}
	}
	return b
}

// P3.1 (C1): a new book has nothing, and is nobody else's.
func TestANewBookHasNothing(t *testing.T) {
	b := book.New()
	has(t, b)
	for _, d := range []int{0, -1, 1} {
		s, err := b.Text(d)
		if len(s) != 0 {
			t.Errorf("the text of %d is %q", d, s)
		}
		wrong(t, err, api.ErrArg, 0)
	}
	refused(t, b, make([]byte, api.MaxBytes+1), 0)
	digest(t, b, "a", 0)
	has(t, book.New())
}

// P3.1 (C2): the chapter's example.
func TestExample(t *testing.T) {
	b := book.New()
	digest(t, b, "a", 0)
	digest(t, b, "b", 1)
	digest(t, b, "a", 0)
	has(t, b, "a", "b")
}

// P3.1 (C1): how many there are grows by a text that comes first, and by nothing else.
func TestManyCountsTextsThatCameFirst(t *testing.T) {
	b := book.New()
	for i, c := range []struct {
		text string
		many int
	}{{"a", 1}, {"a", 1}, {"", 2}, {"b", 3}, {"", 3}, {"a", 3}, {"ab", 4}} {
		if _, err := b.Digest([]byte(c.text)); err != nil || b.Many() != c.many {
			t.Errorf("step %d: %d texts, error %v, not %d", i, b.Many(), err, c.many)
		}
		if _, err := b.Text(c.many - 1); err != nil || b.Many() != c.many {
			t.Errorf("step %d: %d texts behind Text, error %v", i, b.Many(), err)
		}
		if _, err := b.Text(c.many); err == nil || b.Many() != c.many {
			t.Errorf("step %d: %d texts behind a digest that is none", i, b.Many())
		}
	}
}

// P3.1 (C2, C3): the empty text is one like the others, nil or not.
func TestTheEmptyText(t *testing.T) {
	b := of(t, "a", "", "b")
	for _, s := range [][]byte{nil, {}, []byte("a")[:0], make([]byte, 0, 9)} {
		if d, err := b.Digest(s); d != 1 || err != nil {
			t.Errorf("the empty text has the digest %d, error %v", d, err)
		}
	}
	has(t, b, "a", "", "b")

	first := book.New()
	if d, err := first.Digest(nil); d != 0 || err != nil {
		t.Errorf("the empty text has the digest %d, error %v", d, err)
	}
	digest(t, first, "", 0)
	has(t, first, "")
}

// P3.1 (C2): a text of MaxBytes may be, one byte more may not, and changes nothing.
func TestHowLongATextMayBe(t *testing.T) {
	most := strings.Repeat("x", api.MaxBytes)
	b := of(t, "a", most)
	refused(t, b, []byte(most+"x"), 2)
	refused(t, b, []byte(most+"x"), 2)
	refused(t, b, make([]byte, 9*api.MaxBytes), 2)
	digest(t, b, most, 1)
	digest(t, b, most[1:], 2)
	digest(t, b, most[1:]+"y", 3)
	has(t, b, "a", most, most[1:], most[1:]+"y")
}

// P3.1 (C2, C3): in a full book those that are there have their digests; another text has none, and changes nothing.
func TestAFullBook(t *testing.T) {
	b := full(t)
	last := api.MaxDigests - 1
	for range 2 {
		for _, s := range [][]byte{[]byte("another"), nil, []byte(strconv.Itoa(api.MaxDigests)), make([]byte, api.MaxBytes), make([]byte, api.MaxBytes+1)} {
			refused(t, b, s, api.MaxDigests)
		}
		for _, d := range []int{0, 1, last / 2, last - 1, last} {
			digest(t, b, strconv.Itoa(d), d)
		}
	}
	for d := range api.MaxDigests {
		if s, err := b.Text(d); string(s) != strconv.Itoa(d) || err != nil {
			t.Fatalf("the text of %d is %q, error %v", d, s, err)
		}
	}
	_, err := b.Text(api.MaxDigests)
	wrong(t, err, api.ErrArg, api.MaxDigests)
}

// P3.1 (C2): the last text that there is room for comes in.
func TestTheLastText(t *testing.T) {
	b := book.New()
	for i := range api.MaxDigests - 1 {
		if _, err := b.Digest([]byte(strconv.Itoa(i))); err != nil {
			t.Fatal(i, err)
		}
	}
	refused(t, b, make([]byte, api.MaxBytes+1), api.MaxDigests-1)
	digest(t, b, "last", api.MaxDigests-1)
	refused(t, b, []byte("later"), api.MaxDigests)
	digest(t, b, "last", api.MaxDigests-1)
	if s, err := b.Text(api.MaxDigests - 1); string(s) != "last" || err != nil {
		t.Errorf("the last text is %q, error %v", s, err)
	}
}

// P3.1 (C3): digests that are none have no text; the error tells how many texts there are, whatever was asked for.
func TestDigestsThatAreNone(t *testing.T) {
	b := of(t, "a", "", "b")
	for _, d := range []int{-1, -2, -3, 3, 4, api.MaxDigests - 1, api.MaxDigests, 1 << 32, -1 << 32, math.MaxInt, math.MinInt} {
		s, err := b.Text(d)
		if len(s) != 0 {
			t.Errorf("the text of %d is %q", d, s)
		}
		wrong(t, err, api.ErrArg, 3)
	}
	if _, err := b.Text(7); fault.Text(err) != "book 3: cohort: error 1" {
		t.Error(fault.Text(err))
	}
	has(t, b, "a", "", "b")
}

// P3.1 (C2): how many texts there are stays in an error as it was told.
func TestAnErrorStaysAsItWasTold(t *testing.T) {
	b := of(t, "a")
	_, long := b.Digest(make([]byte, api.MaxBytes+1))
	_, none := b.Text(1)
	digest(t, b, "b", 1)
	wrong(t, long, api.ErrTooMany, 1)
	wrong(t, none, api.ErrArg, 1)
	has(t, b, "a", "b")
}

// P3.2: texts that are alike in part, or as letters, but not as bytes, have digests of their own.
func TestUnlikeTextsHaveTwoDigests(t *testing.T) {
	texts := []string{
		"", "\x00", "\x00\x00", "a", "A", "a\x00", "\x00a", "aa", "ab", "ba", " a", "a ", "a\n",
		"\xff", "\xfe", "\xff\xff", "\xc3", "\xef\xbf\xbd", "\u00e9", "e\u0301", "0", "1", "00", "-1",
	}
	long := strings.Repeat("x", api.MaxBytes-1)
	texts = append(texts, long, long+"x", long+"y", "y"+long, long[1:]+"y")
	b := of(t, texts...)
	for d, s := range slices.Backward(texts) {
		digest(t, b, s, d)
	}
	has(t, b, texts...)
}

// P3.2: whatever comes, a text's digest is the place where it came first, and a digest's text is that text.
func TestWhateverComes(t *testing.T) {
	for _, letters := range []string{"a", "ab", "\x00\xff", "abcde"} {
		b := book.New()
		var came []string
		state := uint32(len(letters))
		for range 3000 {
			s := ""
			for state = state*1664525 + 1013904223; len(s) < int(state>>28)%7; {
				i := int(state>>(3*len(s))) % len(letters)
				s += letters[i : i+1]
			}
			want := slices.Index(came, s)
			if want < 0 {
				want = len(came)
				came = append(came, s)
			}
			digest(t, b, s, want)
		}
		has(t, b, came...)
	}
}

// P3.2, P3: books do not know of one another.
func TestBooksOfTheirOwn(t *testing.T) {
	one, other := of(t, "a", "b"), of(t, "b", "c", "a")
	digest(t, one, "c", 2)
	digest(t, other, "a", 2)
	has(t, one, "a", "b", "c")
	has(t, other, "b", "c", "a")
}

// P3: what was handed in may change then, and was not changed, its spare room neither.
func TestWhatWasHandedInMayChange(t *testing.T) {
	b := book.New()
	room := []byte("abcdefgh")
	for ask := range 2 {
		if d, err := b.Digest(room[:3]); d != 0 || err != nil || string(room) != "abcdefgh" {
			t.Errorf("ask %d: digest %d, error %v, %q", ask, d, err, room)
		}
	}
	copy(room, "zzzzzzzz")
	has(t, b, "abc")
	digest(t, b, "abc", 0)
	if d, err := b.Digest(room[:3]); d != 1 || err != nil {
		t.Errorf("the changed text has the digest %d, error %v", d, err)
	}
	has(t, b, "abc", "zzz")
}

// P3: what was answered may change then, its spare room too, and is nobody else's.
func TestWhatWasAnsweredMayChange(t *testing.T) {
	long := strings.Repeat("x", 1000)
	b := of(t, "abc", long, "", "def")
	for d, want := range []string{"abc", long, "", "def"} {
		first, _ := b.Text(d)
		second, _ := b.Text(d)
		spare := first[:cap(first)]
		for i := range spare {
			spare[i] = 'z'
		}
		_ = append(first, "more than there is room for, it may be"...)
		if !bytes.Equal(second, []byte(want)) {
			t.Errorf("a change of one answer is seen in another: %.20q", second)
		}
		digest(t, b, want, d)
	}
	has(t, b, "abc", long, "", "def")
	digest(t, b, "zzz", 4)
}
