package wire_test

import (
	"bytes"
	"math"
	"reflect"
	"slices"
	"strings"
	"testing"

	"cohort/api"
	"cohort/fault"
	"cohort/wire"
)

// Numbers and lengths as bytes, spelt out, so that no test leans on the program's own way to write them.
const (
	num0  = "\x00\x00\x00\x00\x00\x00\x00\x00"
	num1  = "\x00\x00\x00\x00\x00\x00\x00\x01"
	num5  = "\x00\x00\x00\x00\x00\x00\x00\x05"
	least = "\x80\x00\x00\x00\x00\x00\x00\x00"
	most  = "\x7f\xff\xff\xff\xff\xff\xff\xff"
	below = "\xff\xff\xff\xff\xff\xff\xff\xff" // -1

	len0     = "\x00\x00\x00\x00"
	len1     = "\x00\x00\x00\x01"
	len2     = "\x00\x00\x00\x02"
	maxBytes = "\x00\x01\x00\x00"
	overText = "\x00\x01\x00\x01"
	maxRow   = "\x00\x00\x04\x00"
	overRow  = "\x00\x00\x04\x01"
	maxLen   = "\xff\xff\xff\xff"
	signLen  = "\x80\x00\x00\x00"
)

// writes makes a test's writer do something; wrote is all bytes that come of it, and the error's text.
type writes func(w *wire.Writer)

func wrote(does ...writes) (string, string) {
	w := &wire.Writer{}
	for _, do := range does {
		do(w)
	}
	b, err := w.Bytes()
	return string(b), fault.Text(err)
}

func num(n int64) writes     { return func(w *wire.Writer) { w.Num(n) } }
func text(s string) writes   { return func(w *wire.Writer) { w.Text([]byte(s)) } }
func nums(l ...int64) writes { return func(w *wire.Writer) { w.Nums(l) } }
func list(l ...string) writes {
	return func(w *wire.Writer) { w.List(texts(l...)) }
}

func texts(l ...string) [][]byte {
	var out [][]byte
	for _, s := range l {
		out = append(out, []byte(s))
	}
	return out
}

func strs(l [][]byte) []string {
	var out []string
	for _, s := range l {
		out = append(out, string(s))
	}
	return out
}

func TestWhatIsWritten(t *testing.T) {
	long := strings.Repeat("x", api.MaxBytes)
	for name, c := range map[string]struct {
		does []writes
		want string
	}{
		"nothing":             {nil, ""},
		"0":                   {[]writes{num(0)}, num0},
		"1":                   {[]writes{num(1)}, num1},
		"-1":                  {[]writes{num(-1)}, below},
		"each byte":           {[]writes{num(0x0102030405060708)}, "\x01\x02\x03\x04\x05\x06\x07\x08"},
		"the least":           {[]writes{num(math.MinInt64)}, least},
		"the greatest":        {[]writes{num(math.MaxInt64)}, most},
		"no text":             {[]writes{func(w *wire.Writer) { w.Text(nil) }}, len0},
		"an empty text":       {[]writes{text("")}, len0},
		"a text":              {[]writes{text("a")}, len1 + "a"},
		"any bytes":           {[]writes{text("\x00\xff")}, len2 + "\x00\xff"},
		"a text of MaxBytes":  {[]writes{text(long)}, maxBytes + long},
		"no list":             {[]writes{func(w *wire.Writer) { w.List(nil) }}, len0},
		"a list of no text":   {[]writes{func(w *wire.Writer) { w.List([][]byte{nil}) }}, len1 + len0},
		"a list":              {[]writes{list("a", "", "bc")}, "\x00\x00\x00\x03" + len1 + "a" + len0 + len2 + "bc"},
		"a list of MaxRow":    {[]writes{list(make([]string, api.MaxRow)...)}, maxRow + strings.Repeat(len0, api.MaxRow)},
		"a list's long texts": {[]writes{list(long, "a", long)}, "\x00\x00\x00\x03" + maxBytes + long + len1 + "a" + maxBytes + long},
		"no numbers":          {[]writes{nums()}, len0},
		"numbers":             {[]writes{nums(5, -1)}, len2 + num5 + below},
		"numbers of MaxRow":   {[]writes{nums(make([]int64, api.MaxRow)...)}, maxRow + strings.Repeat(num0, api.MaxRow)},
		"one behind another":  {[]writes{text("a"), num(1), list("b"), nums(5), text("")}, len1 + "a" + num1 + len1 + len1 + "b" + len1 + num5 + len0},
	} {
		if got, err := wrote(c.does...); got != c.want || err != "" {
			t.Errorf("%s: %d bytes, error %q", name, len(got), err)
		}
	}
}

func TestWhatIsTooMuchToWrite(t *testing.T) {
	over := strings.Repeat("x", api.MaxBytes+1)
	first := slices.Repeat([]string{""}, 9)
	first[0] = over
	last := slices.Repeat([]string{""}, 9)
	last[8] = over
	for name, do := range map[string]writes{
		"a text":            text(over),
		"a longer text":     text(over + over),
		"a list":            list(make([]string, api.MaxRow+1)...),
		"a list of nil":     func(w *wire.Writer) { w.List(make([][]byte, api.MaxRow+1)) },
		"a list's first":    list(first...),
		"a list's last":     list(last...),
		"numbers":           nums(make([]int64, api.MaxRow+1)...),
		"many more numbers": nums(make([]int64, 9*api.MaxRow)...),
	} {
		if got, err := wrote(do); got != "" || err != "write 0: cohort: error 2" {
			t.Errorf("%s: %q, error %q", name, got, err)
		}
		if got, err := wrote(text("ab"), num(7), do); got != "" || err != "write 14: cohort: error 2" {
			t.Errorf("%s behind 14 bytes: %q, error %q", name, got, err)
		}
		if got, err := wrote(num(7), do, num(7), text("a"), list("a"), nums(1), do, text(over)); got != "" || err != "write 8: cohort: error 2" {
			t.Errorf("%s ahead of others: %q, error %q", name, got, err)
		}
	}
}

func TestAWritersErrorIsOneStepOfANumber(t *testing.T) {
	w := &wire.Writer{}
	w.Nums(make([]int64, api.MaxRow+1))
	_, err := w.Bytes()
	if fault.Code(err) != api.ErrTooMany || !slices.Equal(fault.Trail(err), []api.Step{{Where: "write", At: 0}}) {
		t.Error(err)
	}
	for range 2 {
		if b, again := w.Bytes(); len(b) != 0 || again != err {
			t.Error(b, again)
		}
	}
}

func TestBytesMayBeAskedOnTheWay(t *testing.T) {
	w := &wire.Writer{}
	w.Text([]byte("a"))
	for range 2 {
		if b, err := w.Bytes(); string(b) != len1+"a" || err != nil {
			t.Error(b, err)
		}
	}
	w.Num(1)
	if b, err := w.Bytes(); string(b) != len1+"a"+num1 || err != nil {
		t.Error(b, err)
	}
}

// spoil writes over a slice, its spare room too.
func spoil[T any](l []T, with T) {
	l = l[:cap(l)]
	for i := range l {
		l[i] = with
	}
}

// roomy is bytes with spare room that is marked.
func roomy(s string) []byte {
	return append([]byte(s), "spare"...)[:len(s)]
}

func TestAWriterKeepsNothingThatIsHandedIn(t *testing.T) {
	w := &wire.Writer{}
	s, l, ns := roomy("ab"), [][]byte{roomy("c"), roomy("d")}, []int64{5, 9}
	w.Text(s)
	w.List(l)
	w.Nums(ns[:1])
	if string(s[:7]) != "abspare" || string(l[0][:6]) != "cspare" || string(l[1][:6]) != "dspare" || ns[0] != 5 || ns[1] != 9 {
		t.Error("changed:", s, l, ns)
	}
	spoil(s, 'x')
	spoil(l[0], 'x')
	spoil(l, nil)
	spoil(ns, -1)
	want := len2 + "ab" + len2 + len1 + "c" + len1 + "d" + len1 + num5
	b, err := w.Bytes()
	if string(b) != want || err != nil {
		t.Error(b, err)
	}
	spoil(b, 'x')
	if b, err := w.Bytes(); string(b) != want || err != nil {
		t.Error("bytes that went out were changed:", b, err)
	}
	spoil(b, 'x')
	w.Num(5)
	spoil(b, 'x')
	if b, err := w.Bytes(); string(b) != want+num5 || err != nil {
		t.Error("bytes that went out were changed:", b, err)
	}
}

func TestACopyOfAWriterGoesItsOwnWay(t *testing.T) {
	var w wire.Writer
	for i := range 20 {
		v := w
		w.Num(int64(i))
		want, _ := w.Bytes()
		v.Num(-1)
		if got, _ := v.Bytes(); !bytes.Equal(got[:8*i], want[:8*i]) || string(got[8*i:]) != below {
			t.Error("a copy:", i, got)
		}
		if got, _ := w.Bytes(); !bytes.Equal(got, want) {
			t.Error("what was copied:", i, got)
		}
	}
}

// reads is one thing that is read, as any.
type reads func(r *wire.Reader) any

func readNum(r *wire.Reader) any  { return r.Num() }
func readText(r *wire.Reader) any { return string(r.Text()) }
func readList(r *wire.Reader) any { return strs(r.List()) }
func readNums(r *wire.Reader) any { return slices.Clip(r.Nums()) }
func readInt(most int) reads      { return func(r *wire.Reader) any { return r.Int(most) } }

// empty tells whether a thing that was read is nothing.
func empty(v any) bool {
	x := reflect.ValueOf(v)
	return x.IsZero() || x.Kind() == reflect.Slice && x.Len() == 0
}

func TestWhatIsRead(t *testing.T) {
	long := strings.Repeat("x", api.MaxBytes)
	for name, c := range map[string]struct {
		bytes string
		how   reads
		want  any
	}{
		"0":                   {num0, readNum, int64(0)},
		"-1":                  {below, readNum, int64(-1)},
		"each byte":           {"\x01\x02\x03\x04\x05\x06\x07\x08", readNum, int64(0x0102030405060708)},
		"high bytes":          {"\xf1\xf2\xf3\xf4\xf5\xf6\xf7\xf8", readNum, int64(-0x0e0d0c0b0a090808)},
		"the least":           {least, readNum, int64(math.MinInt64)},
		"the greatest":        {most, readNum, int64(math.MaxInt64)},
		"an empty text":       {len0, readText, ""},
		"a text":              {len1 + "a", readText, "a"},
		"any bytes":           {len2 + "\x00\xff", readText, "\x00\xff"},
		"a text of MaxBytes":  {maxBytes + long, readText, long},
		"an empty list":       {len0, readList, []string(nil)},
		"a list of no text":   {len1 + len0, readList, []string{""}},
		"a list":              {len2 + len1 + "a" + len2 + "bc", readList, []string{"a", "bc"}},
		"a list of MaxRow":    {maxRow + strings.Repeat(len1+"a", api.MaxRow), readList, slices.Repeat([]string{"a"}, api.MaxRow)},
		"a list's long texts": {len2 + maxBytes + long + maxBytes + long, readList, []string{long, long}},
		"no numbers":          {len0, readNums, []int64(nil)},
		"numbers":             {len2 + num5 + least, readNums, []int64{5, math.MinInt64}},
		"numbers of MaxRow":   {maxRow + strings.Repeat(num1, api.MaxRow), readNums, slices.Repeat([]int64{1}, api.MaxRow)},
		"an int 0 of 0":       {num0, readInt(0), 0},
		"an int below most":   {num1, readInt(5), 1},
		"an int of most":      {num5, readInt(5), 5},
		"the greatest int":    {most, readInt(math.MaxInt), math.MaxInt},
	} {
		r := wire.New([]byte(c.bytes))
		if got := c.how(r); !reflect.DeepEqual(got, c.want) && !(empty(got) && empty(c.want)) {
			t.Errorf("%s: read as %v", name, got)
		}
		if err := r.End(); err != nil {
			t.Errorf("%s: %v", name, err)
		}
		r = wire.New([]byte("\x00\x00\x00\x01z" + c.bytes + "y"))
		r.Text()
		if got := c.how(r); !reflect.DeepEqual(got, c.want) && !(empty(got) && empty(c.want)) {
			t.Errorf("%s: read as %v within others", name, got)
		}
		if r.End() == nil || fault.Trail(r.End())[0].At != 5+len(c.bytes) {
			t.Errorf("%s: not behind it: %v", name, r.End())
		}
	}
}

func TestWhatIsWrongToRead(t *testing.T) {
	long := strings.Repeat("x", api.MaxBytes)
	const end, many, sign = "cohort: error 21", "cohort: error 2", "cohort: error 23"
	for name, c := range map[string]struct {
		bytes string
		how   reads
		where string
		want  string
	}{
		"no number":                  {"", readNum, "num", end},
		"a number's seven bytes":     {below[:7], readNum, "num", end},
		"no int":                     {"", readInt(5), "int", end},
		"an int's seven bytes":       {below[:7], readInt(5), "int", end},
		"an int below 0":             {below, readInt(5), "int", sign},
		"the least int":              {least, readInt(5), "int", sign},
		"an int below a most below":  {below, readInt(-9), "int", sign},
		"an int of a most below":     {below, readInt(-1), "int", sign},
		"an int above most":          {num5, readInt(4), "int", many},
		"an int above 0":             {num1, readInt(0), "int", many},
		"0 above -1":                 {num0, readInt(-1), "int", many},
		"0 above the least":          {num0, readInt(math.MinInt), "int", many},
		"the greatest int":           {most, readInt(math.MaxInt - 1), "int", many},
		"low bytes that would do":    {"\x00\x00\x00\x01\x00\x00\x00\x05", readInt(5), "int", many},
		"no text":                    {"", readText, "text", end},
		"a part of a length":         {maxLen[:3], readText, "text", end},
		"a length alone":             {len1, readText, "text", end},
		"the document's":             {len2 + "a", readText, "text", end},
		"a text of MaxBytes, less 1": {maxBytes + long[1:], readText, "text", end},
		"a length too great":         {overText, readText, "text", many},
		"a length too great, whole":  {overText + long + "x", readText, "text", many},
		"the greatest length":        {maxLen + "a", readText, "text", many},
		"a length with a sign":       {signLen, readText, "text", many},
		"no list":                    {"", readList, "list", end},
		"a part of a list's count":   {maxLen[:3], readList, "list", end},
		"a list's count alone":       {len1, readList, "list", end},
		"MaxRow of nothing":          {maxRow, readList, "list", end},
		"MaxRow, less 1":             {maxRow + strings.Repeat(len0, api.MaxRow-1), readList, "list", end},
		"too many in a list":         {overRow, readList, "list", many},
		"too many in a list, whole":  {overRow + strings.Repeat(len0, api.MaxRow+1), readList, "list", many},
		"the greatest list":          {maxLen, readList, "list", many},
		"a list with a sign":         {signLen, readList, "list", many},
		"a list's part of a length":  {len1 + maxLen[:3], readList, "list", end},
		"a list's text that ends":    {len1 + len2 + "a", readList, "list", end},
		"a list's text too long":     {len1 + overText, readList, "list", many},
		"a list's second text":       {len2 + len1 + "a" + len1, readList, "list", end},
		"a list's second too long":   {len2 + len1 + "a" + overText, readList, "list", many},
		"a list's many ahead of end": {len2 + overText + maxLen[:1], readList, "list", many},
		"no numbers":                 {"", readNums, "nums", end},
		"a part of their count":      {maxLen[:3], readNums, "nums", end},
		"their count alone":          {len1, readNums, "nums", end},
		"numbers' seven bytes":       {len1 + num1[:7], readNums, "nums", end},
		"one number of two":          {len2 + num1, readNums, "nums", end},
		"MaxRow numbers, less 1":     {maxRow + strings.Repeat(num1, api.MaxRow-1), readNums, "nums", end},
		"too many numbers":           {overRow, readNums, "nums", many},
		"too many numbers, whole":    {overRow + strings.Repeat(num1, api.MaxRow+1), readNums, "nums", many},
		"the greatest count":         {maxLen, readNums, "nums", many},
		"numbers with a sign":        {signLen, readNums, "nums", many},
	} {
		r := wire.New([]byte(c.bytes))
		if got := c.how(r); !empty(got) || fault.Text(r.End()) != c.where+" 0: "+c.want {
			t.Errorf("%s: read as %v, error %v", name, got, r.End())
		}
		r = wire.New([]byte(num5 + len1 + "a" + c.bytes))
		r.Int(5)
		r.Text()
		if got := c.how(r); !empty(got) || fault.Text(r.End()) != c.where+" 13: "+c.want {
			t.Errorf("%s: read at 13 as %v, error %v", name, got, r.End())
		}
	}
}

// What is cut anywhere ends too early, but at its end.
func TestWhatIsCutEnds(t *testing.T) {
	for where, c := range map[string]struct {
		bytes string
		how   reads
	}{
		"num":  {below, readNum},
		"int":  {num5, readInt(5)},
		"text": {len2 + "ab", readText},
		"list": {len2 + len2 + "ab" + len1 + "c", readList},
		"nums": {len2 + num1 + below, readNums},
	} {
		for i := range len(c.bytes) {
			r := wire.New([]byte(c.bytes)[:i])
			if got := c.how(r); !empty(got) || fault.Text(r.End()) != where+" 0: cohort: error 21" {
				t.Errorf("%s cut at %d: %v, %v", where, i, got, r.End())
			}
		}
	}
}

func TestBehindTheFirstErrorThereIsNothing(t *testing.T) {
	all := []reads{readNum, readText, readList, readNums, readInt(math.MaxInt), readInt(-1)}
	for name, c := range map[string]struct {
		bytes string
		how   reads
		want  string
	}{
		"a length":      {overText + num1 + num1, readText, "text 0: cohort: error 2"},
		"a list's text": {len2 + len0 + overText + num1 + num1, readList, "list 0: cohort: error 2"},
		"a count":       {overRow + num1 + num1, readNums, "nums 0: cohort: error 2"},
		"a sign":        {below + num1 + num1, readInt(5), "int 0: cohort: error 23"},
		"too much":      {num5 + num1 + num1, readInt(4), "int 0: cohort: error 2"},
		"a text's end":  {"\x00\x00\x00\x20" + num1 + num1, readText, "text 0: cohort: error 21"},
	} {
		r := wire.New([]byte(c.bytes))
		c.how(r)
		first := r.End()
		for range 2 {
			for i, how := range all {
				if got := how(r); !empty(got) || r.End() != first || fault.Text(first) != c.want {
					t.Errorf("%s: behind it %d reads %v, error %v", name, i, got, r.End())
				}
			}
		}
	}
}

func TestEndTellsWhatIsLeft(t *testing.T) {
	if err := wire.New(nil).End(); err != nil {
		t.Error(err)
	}
	var zero wire.Reader
	if err := zero.End(); err != nil || zero.Num() != 0 || fault.Text(zero.End()) != "num 0: cohort: error 21" {
		t.Error(err, zero.End())
	}
	r := wire.New([]byte(num1 + len0))
	for _, want := range []string{"end 0: cohort: error 22", "end 8: cohort: error 22"} {
		for range 2 {
			if err := r.End(); fault.Text(err) != want || fault.Code(err) != api.ErrLeft || len(fault.Trail(err)) != 1 {
				t.Error(err)
			}
		}
		if want == "end 0: cohort: error 22" && r.Num() != 1 {
			t.Error("what was left is not read any more")
		}
	}
	if s := r.Text(); len(s) != 0 || r.End() != nil {
		t.Error(s, r.End())
	}
	if n := r.Num(); n != 0 || fault.Text(r.End()) != "num 12: cohort: error 21" {
		t.Error(n, r.End())
	}
}

func TestAReadersErrorIsOneStepOfANumber(t *testing.T) {
	r := wire.New([]byte(num1 + len1 + overText))
	r.Num()
	r.List()
	if err := r.End(); fault.Code(err) != api.ErrTooMany || !slices.Equal(fault.Trail(err), []api.Step{{Where: "list", At: 8}}) {
		t.Error(err)
	}
}

func TestAReaderKeepsNothingThatIsHandedIn(t *testing.T) {
	b := roomy(len1 + "a" + num5)
	r := wire.New(b)
	if r.Text(); string(b[:len(b)+5]) != len1+"a"+num5+"spare" {
		t.Error("changed:", b)
	}
	spoil(b, 0xff)
	if n := r.Num(); n != 5 || r.End() != nil {
		t.Error(n, r.End())
	}
}

func TestWhatIsReadIsNewMemory(t *testing.T) {
	const all = len1 + "a" + len2 + len1 + "b" + len1 + "c" + len1 + num1 + len1 + "d"
	b := []byte(all)
	r := wire.New(b)
	s := r.Text()
	spoil(s, 'x')
	l := r.List()
	spoil(l[0], 'x')
	if string(l[1]) != "c" {
		t.Error("texts of one list share memory:", l)
	}
	spoil(l[1], 'x')
	n := r.Nums()
	spoil(n, -1)
	if d := r.Text(); string(d) != "d" || r.End() != nil || string(b) != all {
		t.Error("what was read shares memory:", d, r.End(), b)
	}
	if string(s[:1]) != "x" || string(l[0][:1]) != "x" || n[0] != -1 {
		t.Error("what went out was changed:", s, l, n)
	}
}

// rolls is a row of numbers that looks like chance, and is the same each time.
type rolls uint64

func (r *rolls) below(n int) int {
	*r = *r*6364136223846793005 + 1442695040888963407
	return int(uint64(*r)>>33) % n
}

func (r *rolls) text() []byte {
	s := make([]byte, r.below(5))
	for i := range s {
		s[i] = byte(r.below(256))
	}
	return s
}

func (r *rolls) num() int64 {
	edges := [...]int64{0, 1, -1, math.MinInt64, math.MaxInt64, 1 << 32, -1 << 31, 255, 256}
	return edges[r.below(len(edges))] + int64(r.below(2))
}

// TestThereAndBack writes rows of things, reads them as they were written, and holds both against each other (P2.2).
func TestThereAndBack(t *testing.T) {
	dice := rolls(1)
	for range 2000 {
		w := &wire.Writer{}
		var kinds []int
		var want []any
		for range dice.below(6) {
			k := dice.below(4)
			kinds = append(kinds, k)
			want = append(want, writeAny(w, k, &dice))
		}
		b, err := w.Bytes()
		if err != nil {
			t.Fatal(err)
		}
		r := wire.New(b)
		for i, k := range kinds {
			if got := readAny(r, k); !reflect.DeepEqual(got, want[i]) && !(empty(got) && empty(want[i])) {
				t.Fatalf("%v was read as %v", want[i], got)
			}
		}
		if err := r.End(); err != nil {
			t.Fatal(err)
		}
	}
}

func writeAny(w *wire.Writer, kind int, dice *rolls) any {
	switch kind {
	case 0:
		n := dice.num()
		w.Num(n)
		return n
	case 1:
		s := dice.text()
		w.Text(s)
		return string(s)
	case 2:
		var l [][]byte
		for range dice.below(4) {
			l = append(l, dice.text())
		}
		w.List(l)
		return strs(l)
	}
	var l []int64
	for range dice.below(4) {
		l = append(l, dice.num())
	}
	w.Nums(l)
	return l
}

func readAny(r *wire.Reader, kind int) any {
	return []reads{readNum, readText, readList, readNums}[kind](r)
}

// again reads one thing and writes it.
func again(r *wire.Reader, w *wire.Writer, kind int) {
	switch kind {
	case 0:
		w.Num(r.Num())
	case 1:
		w.Text(r.Text())
	case 2:
		w.List(r.List())
	case 3:
		w.Nums(r.Nums())
	case 4:
		w.Num(int64(r.Int(1 << 20)))
	}
}

// TestBackAndThere reads bytes of any kind in each way: what is read to the end is written as it stood (P2.2).
func TestBackAndThere(t *testing.T) {
	dice := rolls(2)
	whole := 0
	for range 40000 {
		b := make([]byte, dice.below(20))
		for i := range b {
			b[i] = []byte{0, 0, 0, 0, 0, 0, 1, 1, 2, 0xff}[dice.below(10)]
		}
		r, w := wire.New(b), &wire.Writer{}
		for range 1 + dice.below(3) {
			again(r, w, dice.below(5))
		}
		if r.End() != nil {
			continue
		}
		whole++
		if got, err := w.Bytes(); !bytes.Equal(got, b) || err != nil {
			t.Fatalf("%x was written as %x, %v", b, got, err)
		}
	}
	if whole < 100 {
		t.Error("too few were read to the end:", whole)
	}
}

func TestACopyOfAReaderGoesItsOwnWay(t *testing.T) {
	r := wire.New([]byte(len1 + "a" + len1 + len1 + "b"))
	c := *r
	spoil(c.Text(), 'x')
	spoil(c.List()[0], 'x')
	if s, l := r.Text(), r.List(); string(s) != "a" || len(l) != 1 || string(l[0]) != "b" || r.End() != nil {
		t.Error(s, l, r.End())
	}
	if n := c.Num(); n != 0 || c.End() == nil || r.End() != nil {
		t.Error(n, c.End(), r.End())
	}
}
