package txn_test

import (
	"bytes"
	"encoding/binary"
	"errors"
	"fmt"
	"maps"
	"math"
	"slices"
	"strings"
	"testing"

	"cohort/api"
	"cohort/fault"
	"cohort/route"
	"cohort/store"
	"cohort/txn"
)

// The bounds, as the chapters count them: the last client and the last number, how many reads, and writes, how many bytes of a key and of a value, of any text, and how many entries of a store.
const (
	lastClient = 15
	lastNum    = 1 << 40
	most       = 8
	longKey    = 16
	longValue  = 64
	longText   = 1 << 16
	mostStored = 128
	endVersion = 1 << 62 // the version that no Put goes beyond
)

// The errors as they are told behind their steps.
const (
	arg     = ": cohort: error 1"
	tooMany = ": cohort: error 2"
	end     = ": cohort: error 21"
	left    = ": cohort: error 22"
	sign    = ": cohort: error 23"
	full    = ": cohort: error 71"
	none    = "txn 0: cohort: error 101"
)

// key is a key of so many bytes; value a value.
func key(long int) string { return strings.Repeat("k", long) }

func value(long int) string { return strings.Repeat("v", long) }

// odd is the i-th of keys that leave some between them: 001, 003, 005 and so on; even is the one behind it.
func odd(i int) string { return fmt.Sprintf("%03d", 2*i+1) }

func even(i int) string { return fmt.Sprintf("%03d", 2*i+2) }

// reads are so many that may be; writes likewise.
func reads(n int) []api.Read {
	var l []api.Read
	for i := range n {
		l = append(l, api.Read{Key: odd(i), Version: int64(i % 3)})
	}
	return l
}

func writes(n int) []api.Write {
	var l []api.Write
	for i := range n {
		l = append(l, api.Write{Key: even(i), Value: value(i)})
	}
	return l
}

// of is a transaction of keys that are read, each of version 0, and of some that are written.
func of(read, written []string) api.Txn {
	t := api.Txn{Client: 2, Num: 3}
	for _, k := range read {
		t.Reads = append(t.Reads, api.Read{Key: k})
	}
	for i, k := range written {
		t.Writes = append(t.Writes, api.Write{Key: k, Value: fmt.Sprint("new ", i)})
	}
	return t
}

// copied is a transaction that shares no list with t.
func copied(t api.Txn) api.Txn {
	t.Reads, t.Writes = slices.Clone(t.Reads), slices.Clone(t.Writes)
	return t
}

func alike(a, b api.Txn) bool {
	return a.Client == b.Client && a.Num == b.Num && slices.Equal(a.Reads, b.Reads) && slices.Equal(a.Writes, b.Writes)
}

// part is what a Reader reads at once.
type part struct {
	where string
	bytes []byte
}

// num and text are parts as the bytes of wire's chapter, so that no test leans on the program's own way to write them; count is a number that is read as an Int.
func num(n int64) part { return part{"num", binary.BigEndian.AppendUint64(nil, uint64(n))} }

func count(n int64) part { return part{"int", num(n).bytes} }

func text(s string) part {
	return part{"text", append(binary.BigEndian.AppendUint32(nil, uint32(len(s))), s...)}
}

// parts are those of a transaction, be it right or not.
func parts(t api.Txn) []part {
	l := []part{num(int64(t.Client)), num(t.Num), count(int64(len(t.Reads)))}
	for _, x := range t.Reads {
		l = append(l, text(x.Key), num(x.Version))
	}
	l = append(l, count(int64(len(t.Writes))))
	for _, x := range t.Writes {
		l = append(l, text(x.Key), text(x.Value))
	}
	return l
}

func joined(l ...part) []byte {
	var b []byte
	for _, p := range l {
		b = append(b, p.bytes...)
	}
	return b
}

func written(t api.Txn) []byte { return joined(parts(t)...) }

// told holds an error against its text; of an empty one there is to be none.
func told(t *testing.T, what string, err error, text string) {
	t.Helper()
	if fault.Text(err) != text || (err == nil) != (text == "") {
		t.Errorf("%s: error %q, not %q", what, fault.Text(err), text)
	}
}

// right holds that a transaction is one, its bytes, and that it comes back from them.
func right(t *testing.T, name string, x api.Txn) {
	t.Helper()
	told(t, name+": Check", txn.Check(x), "")
	b, err := txn.Put(x)
	told(t, name+": Put", err, "")
	if !bytes.Equal(b, written(x)) {
		t.Errorf("%s: Put is %x, not %x", name, b, written(x))
	}
	got(t, name, written(x), x, "")
}

// wrong holds that a transaction is none, and that its bytes, as they would be, are refused with a text.
func wrong(t *testing.T, name string, x api.Txn, read string) {
	t.Helper()
	told(t, name+": Check", txn.Check(x), none)
	b, err := txn.Put(x)
	told(t, name+": Put", err, none)
	if len(b) > 0 {
		t.Errorf("%s: with an error Put has %x", name, b)
	}
	refused(t, name, written(x), read)
}

// got holds what bytes are read as, or the error against its text.
func got(t *testing.T, name string, b []byte, want api.Txn, text string) {
	t.Helper()
	x, err := txn.Get(b)
	told(t, name+": Get", err, text)
	if !alike(x, want) {
		t.Errorf("%s: Get of %d bytes is %v, not %v", name, len(b), x, want)
	}
}

// refused holds that bytes are no transaction, and what is told of them.
func refused(t *testing.T, name string, b []byte, text string) {
	t.Helper()
	got(t, name, b, api.Txn{}, text)
}

// example is a transaction with something of everything.
func example() api.Txn {
	return api.Txn{Client: 2, Num: 3, Reads: []api.Read{{Key: "c", Version: 1}, {Key: "p"}}, Writes: []api.Write{{Key: "a", Value: "1"}, {Key: "c", Value: "2"}}}
}

// rightOnes are transactions at the edges of what may be.
func rightOnes() map[string]api.Txn {
	high := strings.Repeat("\xff", longKey)
	return map[string]api.Txn{
		"example":                  example(),
		"first client, first one":  {Client: 0, Num: 1, Reads: reads(1)},
		"last client, last one":    {Client: lastClient, Num: lastNum, Writes: writes(1)},
		"reads alone":              {Num: 1, Reads: reads(3), Writes: []api.Write{}},
		"writes alone":             {Num: 1, Reads: []api.Read{}, Writes: writes(3)},
		"most reads":               {Num: 2, Reads: reads(most)},
		"most writes":              {Num: 2, Writes: writes(most)},
		"most of both":             {Num: 2, Reads: reads(most), Writes: writes(most)},
		"most but one":             {Num: 2, Reads: reads(most - 1), Writes: writes(most - 1)},
		"the empty key":            {Num: 1, Reads: []api.Read{{}}, Writes: []api.Write{{}}},
		"the empty key, and more":  {Num: 1, Reads: []api.Read{{}, {Key: "\x00"}}, Writes: []api.Write{{}, {Key: "\x00", Value: "x"}}},
		"read and written":         {Num: 1, Reads: []api.Read{{Key: "a", Version: 4}, {Key: "b"}}, Writes: []api.Write{{Key: "a"}, {Key: "b", Value: "x"}}},
		"written ahead of read":    {Num: 1, Reads: []api.Read{{Key: "x"}}, Writes: []api.Write{{Key: "a", Value: "b"}}},
		"read ahead of written":    {Num: 1, Reads: []api.Read{{Key: "a"}}, Writes: []api.Write{{Key: "x", Value: "a"}}},
		"long keys":                {Num: 1, Reads: []api.Read{{Key: key(longKey - 1)}, {Key: key(longKey)}}, Writes: []api.Write{{Key: key(longKey)}, {Key: high}}},
		"long runes":               {Num: 1, Reads: []api.Read{{Key: strings.Repeat("é", longKey/2)}}, Writes: []api.Write{{Value: strings.Repeat("é", longValue/2)}}},
		"long values":              {Num: 1, Writes: []api.Write{{Key: "a", Value: value(longValue - 1)}, {Key: "b", Value: value(longValue)}, {Key: "c"}}},
		"values fall":              {Num: 1, Writes: []api.Write{{Key: "a", Value: "z"}, {Key: "b", Value: "y"}, {Key: "c", Value: "y"}}},
		"first and last version":   {Num: 1, Reads: []api.Read{{Key: "a", Version: lastNum}, {Key: "b", Version: 1}, {Key: "c", Version: 0}, {Key: "d", Version: lastNum - 1}}},
		"keys that rise by a byte": {Num: 1, Reads: []api.Read{{Key: "A"}, {Key: "a"}, {Key: "a\x00"}, {Key: "aa"}, {Key: "z"}, {Key: "é"}, {Key: "\xff"}}},
		"writes that rise":         {Num: 1, Writes: []api.Write{{Key: "A"}, {Key: "a"}, {Key: "a\x00"}, {Key: "aa"}, {Key: "z"}, {Key: "é"}, {Key: "\xff"}}},
	}
}

// P10.1 (J1), P10.2: what may be has no error, just the bytes that the chapter tells, and comes back from them.
func TestRight(t *testing.T) {
	for name, x := range rightOnes() {
		right(t, name, x)
	}
}

// P10.1 (Types): the bytes of one transaction, one by one.
func TestBytes(t *testing.T) {
	b, err := txn.Put(api.Txn{Client: 7, Num: 1<<40 - 2, Reads: []api.Read{{Key: "ab", Version: 258}}, Writes: []api.Write{{Key: "", Value: "x"}, {Key: "y", Value: ""}}})
	want := "\x00\x00\x00\x00\x00\x00\x00\x07" + "\x00\x00\x00\xff\xff\xff\xff\xfe" +
		"\x00\x00\x00\x00\x00\x00\x00\x01" + "\x00\x00\x00\x02ab" + "\x00\x00\x00\x00\x00\x00\x01\x02" +
		"\x00\x00\x00\x00\x00\x00\x00\x02" + "\x00\x00\x00\x00" + "\x00\x00\x00\x01x" + "\x00\x00\x00\x01y" + "\x00\x00\x00\x00"
	if string(b) != want || err != nil {
		t.Errorf("%x, %v, not %x", b, err, want)
	}
}

// P10.1: the chapter's example.
func TestTheChaptersExample(t *testing.T) {
	wrong(t, "no reads, no writes", api.Txn{Num: 1}, none)
	wrong(t, "empty ones", api.Txn{Client: 2, Num: 3, Reads: []api.Read{}, Writes: []api.Write{}}, none)
	wrong(t, "zero", api.Txn{}, none)
}

// far are numbers that are outside of all bounds; some of them are small ones once they are cut short.
func far() []int64 {
	return []int64{math.MinInt64, math.MinInt64 + 2, math.MaxInt64, 1<<63 - 1<<32 + 1, -1 << 32, -1<<32 + 2, -1 << 40, 1<<40 + 1, 1 << 41, 1<<41 + 2}
}

// P10.1 (J1): a client, and a number, that may not be.
func TestWrongClientAndNum(t *testing.T) {
	for _, n := range append(far(), -1, lastClient+1, lastClient+2, 100, 1<<32, 1<<32+2) {
		x := example()
		x.Client = int(n)
		wrong(t, fmt.Sprint("client ", n), x, none)
	}
	for _, n := range append(far(), 0, -1, lastNum+1) {
		x := example()
		x.Num = n
		wrong(t, fmt.Sprint("num ", n), x, none)
	}
}

// P10.1 (J1): more reads, or writes, than may be; as bytes their count is one that may not be.
func TestTooMany(t *testing.T) {
	for _, n := range []int{most + 1, most + 2, 100, 5000} {
		wrong(t, fmt.Sprint(n, " reads"), api.Txn{Num: 1, Reads: reads(n)}, "txn 0: int 16"+tooMany)
		wrong(t, fmt.Sprint(n, " reads, and writes"), api.Txn{Num: 1, Reads: reads(n), Writes: writes(n)}, "txn 0: int 16"+tooMany)
		wrong(t, fmt.Sprint(n, " writes"), api.Txn{Num: 1, Writes: writes(n)}, "txn 0: int 24"+tooMany)
		wrong(t, fmt.Sprint("a read, and ", n, " writes"), api.Txn{Num: 1, Reads: reads(1), Writes: writes(n)}, fmt.Sprint("txn 0: int ", 24+7+8, tooMany))
	}
}

// P10.1 (J1): keys that do not rise, in the reads and in the writes, wherever they stand.
func TestKeysThatDoNotRise(t *testing.T) {
	for _, x := range [][2]string{{"a", "a"}, {"b", "a"}, {"", ""}, {"a", ""}, {"ab", "a"}, {"a\x00", "a"}, {"a", "A"}, {"é", "z"}, {"\xff", "\x00"}, {key(longKey), key(longKey)}, {key(longKey), key(longKey - 1)}} {
		for _, around := range [][2][]string{{nil, nil}, {nil, {"\xff\xff"}}, {{""}, nil}, {{"", "\x00"}, {"\xff\xff", "\xff\xff\xff"}}} {
			l := slices.Concat(around[0], x[:], around[1])
			wrong(t, fmt.Sprintf("reads of %q", l), of(l, nil), none)
			wrong(t, fmt.Sprintf("reads of %q, and a write", l), of(l, []string{"a"}), none)
			wrong(t, fmt.Sprintf("writes of %q", l), of(nil, l), none)
			wrong(t, fmt.Sprintf("writes of %q, and a read", l), of([]string{"a"}, l), none)
		}
	}
	for at := 1; at < most; at++ {
		x := api.Txn{Num: 1, Reads: reads(most), Writes: writes(most)}
		x.Reads[at].Key = odd(at - 1)
		wrong(t, fmt.Sprint("read ", at), x, none)
		x = api.Txn{Num: 1, Reads: reads(most), Writes: writes(most)}
		x.Writes[at].Key = even(at - 1)
		wrong(t, fmt.Sprint("write ", at), x, none)
	}
	// Above the one two ahead is not above the one ahead.
	wrong(t, "a zigzag that is read", of([]string{"b", "f", "d", "h"}, nil), none)
	wrong(t, "a zigzag that is written", of(nil, []string{"b", "f", "d", "h"}), none)
}

// P10.1 (J1): keys and values that are too long, and versions that may not be, wherever they stand.
func TestLongOnesAndVersions(t *testing.T) {
	ways := map[string]func(x *api.Txn, at int){}
	for _, long := range []string{key(longKey + 1), strings.Repeat("é", longKey/2+1), strings.Repeat("\x00", longKey+1), key(longText)} {
		// Between the keys beside it, so that its length alone is wrong.
		ways[fmt.Sprintf("read of %d bytes %.9q", len(long), long)] = func(x *api.Txn, at int) { x.Reads[at].Key += long[len(x.Reads[at].Key):] }
		ways[fmt.Sprintf("write of %d bytes %.9q", len(long), long)] = func(x *api.Txn, at int) { x.Writes[at].Key += long[len(x.Writes[at].Key):] }
	}
	for _, long := range []string{value(longValue + 1), strings.Repeat("é", longValue/2+1), strings.Repeat("\x00", longValue+1), value(longText)} {
		ways[fmt.Sprintf("value of %d bytes %.9q", len(long), long)] = func(x *api.Txn, at int) { x.Writes[at].Value = long }
	}
	for _, version := range []int64{-1, lastNum + 1, math.MinInt64, math.MaxInt64, -1 << 40, 1 << 62} {
		ways[fmt.Sprint("version ", version)] = func(x *api.Txn, at int) { x.Reads[at].Version = version }
	}
	for name, spoil := range ways {
		for at := range most {
			x := api.Txn{Num: 1, Reads: reads(most), Writes: writes(most)}
			spoil(&x, at)
			wrong(t, fmt.Sprint(name, " at ", at), x, none)
		}
	}
}

// P10.1 (J1): bytes that are cut end in the part that is cut, wherever that is; with a byte more one is left.
func TestBytesThatAreCut(t *testing.T) {
	for name, x := range rightOnes() {
		whole, began := written(x), 0
		for _, p := range parts(x) {
			for more := range p.bytes {
				refused(t, name, whole[:began+more], fmt.Sprintf("txn 0: %s %d%s", p.where, began, end))
			}
			began += len(p.bytes)
		}
		for _, more := range []string{"\x00", "\xff", "ab", key(longText), string(whole)} {
			refused(t, name, append(slices.Clone(whole), more...), fmt.Sprintf("txn 0: end %d%s", len(whole), left))
		}
	}
	refused(t, "nothing", nil, "txn 0: num 0"+end)
	refused(t, "nothing", []byte{}, "txn 0: num 0"+end)
}

// P10.1 (J1): both counts are from 0 to 8; one that is not is told, whatever stands behind it, or nothing.
func TestCounts(t *testing.T) {
	head := []part{num(2), num(3)}
	zero := api.Txn{Client: 2, Num: 3}
	eight, also := zero, zero
	eight.Reads, also.Writes = reads(most), writes(most)
	got(t, "8 reads", written(eight), eight, "")
	got(t, "8 writes", written(also), also, "")
	refused(t, "none of both", written(zero), none)

	for n, why := range map[int64]string{9: tooMany, 10: tooMany, 16: tooMany, 256: tooMany, 1 << 32: tooMany, 1<<32 + 1: tooMany, math.MaxInt64: tooMany, -1: sign, -8: sign, -1<<32 + 1: sign, math.MinInt64: sign} {
		nine := parts(api.Txn{Reads: reads(9)})[3:]
		for _, behind := range [][]part{nil, nine, {text("a")}, {count(0)}, {count(-1)}, {text(key(longText + 1))}} {
			b := joined(slices.Concat(head, []part{count(n)}, behind)...)
			refused(t, fmt.Sprint(n, " reads"), b, "txn 0: int 16"+why)
			b = joined(slices.Concat(head, []part{count(0), count(n)}, behind)...)
			refused(t, fmt.Sprint(n, " writes"), b, "txn 0: int 24"+why)
			b = joined(slices.Concat(head, []part{count(1), text("ab"), num(1), count(n)}, behind)...)
			refused(t, fmt.Sprint("a read, and ", n, " writes"), b, "txn 0: int 38"+why)
		}
	}
	refused(t, "8, and one fewer there", joined(slices.Concat(head, []part{count(8)}, parts(api.Txn{Reads: reads(7)})[3:17])...), fmt.Sprint("txn 0: text ", 24+7*15, end))
	refused(t, "1, and one more there", joined(slices.Concat(head, []part{count(0), count(1), text("a"), text("b"), text("c")})...), "txn 0: end 42"+left)
}

// P10.1 (J1): what the Reader says is told, be the transaction right or not; of its errors the first one.
func TestTheReaderIsFirst(t *testing.T) {
	for name, spoil := range map[string]func(x *api.Txn){
		"client":  func(x *api.Txn) { x.Client = -1 },
		"num":     func(x *api.Txn) { x.Num = 0 },
		"key":     func(x *api.Txn) { x.Reads[0].Key = key(longKey + 1) },
		"version": func(x *api.Txn) { x.Reads[1].Version = -1 },
		"value":   func(x *api.Txn) { x.Writes[0].Value = value(longValue + 1) },
		"order":   func(x *api.Txn) { x.Writes[0].Key = "z" },
		"no keys": func(x *api.Txn) { x.Reads, x.Writes = nil, nil },
	} {
		x := example()
		spoil(&x)
		b := written(x)
		refused(t, name, b, none)
		refused(t, name, append(b, 0), fmt.Sprintf("txn 0: end %d%s", len(b), left))
		l := parts(x)
		last := l[len(l)-1]
		refused(t, name, b[:len(b)-1], fmt.Sprintf("txn 0: %s %d%s", last.where, len(b)-len(last.bytes), end))
	}

	head := []part{num(-5), num(0), count(1)}
	over := part{"text", text(key(longText + 1)).bytes}
	refused(t, "a key beyond all texts", joined(append(head, over, num(1), count(0))...), "txn 0: text 24"+tooMany)
	refused(t, "and cut", joined(append(head, over)...)[:40], "txn 0: text 24"+tooMany)
	refused(t, "a value beyond all texts", joined(num(2), num(3), count(0), count(1), text("a"), over), "txn 0: text 37"+tooMany)
	refused(t, "a length of 2^32 - 1", joined(append(head, part{"text", []byte("\xff\xff\xff\xff")})...), "txn 0: text 24"+tooMany)
	refused(t, "a count behind it", joined(append(head, over, num(1), count(9))...), "txn 0: text 24"+tooMany)
	refused(t, "the longest text", joined(num(2), num(3), count(0), count(1), text("a"), text(value(longText))), none)
}

// P10.1 (Errors): an error is a number, which errors.Is finds, in the steps that the chapter names.
func TestErrorsAreNumbersInSteps(t *testing.T) {
	s := store.New()
	_, notPut := txn.Put(api.Txn{})
	_, cut := txn.Get(written(example())[:30])
	_, notGot := txn.Get(written(api.Txn{}))
	step := api.Step{Where: "txn", At: 0}
	for _, x := range []struct {
		err  error
		code api.Errno
		want []api.Step
	}{
		{txn.Check(api.Txn{}), api.ErrTxn, []api.Step{step}},
		{notPut, api.ErrTxn, []api.Step{step}},
		{notGot, api.ErrTxn, []api.Step{step}},
		{cut, api.ErrEnd, []api.Step{step, {Where: "num", At: 29}}},
		{txn.Apply(of(nil, []string{key(longKey + 1)}), s, []string{key(longKey + 1)}), api.ErrArg, []api.Step{step, {Where: "store", At: 0}}},
	} {
		if fault.Code(x.err) != x.code || !errors.Is(x.err, x.code) || !slices.Equal(fault.Trail(x.err), x.want) {
			t.Errorf("%q is not %d at %v", fault.Text(x.err), x.code, x.want)
		}
	}
}

// dice are numbers that follow from where they begin.
type dice uint32

func (d *dice) roll(below int) int {
	*d = *d*1664525 + 1013904223
	return int(*d>>8) % below
}

// row is some keys of so many, rising, each once.
func (d *dice) row(among int) []string {
	var l []string
	for i := range among {
		if len(l) < most && d.roll(among) < 4 {
			l = append(l, odd(i))
		}
	}
	return l
}

// txn is one of so many keys, that may be.
func (d *dice) txn(among int) api.Txn {
	x := api.Txn{Client: d.roll(lastClient + 1), Num: int64(d.roll(1<<20))<<20 + 1}
	for _, k := range d.row(among) {
		x.Reads = append(x.Reads, api.Read{Key: k, Version: int64(d.roll(3))})
	}
	for _, k := range d.row(among) {
		x.Writes = append(x.Writes, api.Write{Key: k, Value: value(d.roll(longValue + 1))})
	}
	if len(x.Reads)+len(x.Writes) == 0 {
		x.Reads = []api.Read{{Key: odd(0)}}
	}
	return x
}

// P10.2: a transaction comes back from its bytes, and no two unlike ones have the same.
func TestThereAndBack(t *testing.T) {
	d, met := dice(1), map[string]api.Txn{}
	for range 3000 {
		x := d.txn(9)
		right(t, "some", x)
		b := string(written(x))
		if y, is := met[b]; is && !alike(x, y) {
			t.Errorf("%v and %v have the same bytes", x, y)
		}
		met[b] = x
	}
	if len(met) < 2000 {
		t.Error("too few were unlike:", len(met))
	}
}

// P10.2: bytes that are read have just those bytes again; whatever bytes come, they are a right transaction's, or refused.
func TestBackAndThere(t *testing.T) {
	d, taken, met := dice(2), 0, map[api.Errno]int{}
	for range 40000 {
		b := written(d.txn(5))
		for range d.roll(3) {
			b[d.roll(len(b))] = []byte{0, 0, 1, 2, 8, 9, 'a', 0xff}[d.roll(8)]
		}
		x, err := txn.Get(b)
		met[fault.Code(err)]++
		if err != nil {
			if !alike(x, api.Txn{}) {
				t.Fatalf("with an error %x is %v", b, x)
			}
			continue
		}
		taken++
		again, err := txn.Put(x)
		if err != nil || !bytes.Equal(again, b) || !bytes.Equal(written(x), b) || txn.Check(x) != nil {
			t.Fatalf("%x is %v, and that %x, %v", b, x, again, err)
		}
	}
	for _, e := range []api.Errno{api.OK, api.ErrTooMany, api.ErrEnd, api.ErrLeft, api.ErrSign, api.ErrTxn} {
		if met[e] < 20 {
			t.Errorf("too little is told by %v", met)
		}
	}
	delete(met, api.ErrTxn)
	if len(met) != 5 || taken < 1000 {
		t.Errorf("%v", met)
	}
}

// P10.1 (J2): the keys of what is read and of what is written, rising, each once; also of a transaction that is not right.
func TestKeys(t *testing.T) {
	for _, x := range []struct{ read, written, want []string }{
		{nil, nil, nil},
		{[]string{"a"}, nil, []string{"a"}},
		{nil, []string{"a"}, []string{"a"}},
		{[]string{"a"}, []string{"a"}, []string{"a"}},
		{[]string{""}, []string{""}, []string{""}},
		{[]string{"a", "c"}, []string{"b", "d"}, []string{"a", "b", "c", "d"}},
		{[]string{"c", "d"}, []string{"a", "b"}, []string{"a", "b", "c", "d"}},
		{[]string{"a", "b"}, []string{"b", "c"}, []string{"a", "b", "c"}},
		{[]string{"a", "b", "c"}, []string{"a", "b", "c"}, []string{"a", "b", "c"}},
		{[]string{"", "a", "é"}, []string{"A", "a\x00", "z", "\xff"}, []string{"", "A", "a", "a\x00", "z", "é", "\xff"}},
		{[]string{"c", "a", "c", "b"}, []string{"d", "a", "a"}, []string{"a", "b", "c", "d"}},
		{[]string{"b", "b"}, []string{"a", "a"}, []string{"a", "b"}},
		{[]string{key(longText), "b"}, []string{key(longKey + 1), "b"}, []string{"b", key(longKey + 1), key(longText)}},
	} {
		if got := txn.Keys(of(x.read, x.written)); !slices.Equal(got, x.want) {
			t.Errorf("of %.40q and %.40q the keys are %.40q, not %.40q", x.read, x.written, got, x.want)
		}
	}
	both := txn.Keys(api.Txn{Reads: reads(most), Writes: writes(most)})
	if len(both) != 2*most || !slices.IsSorted(both) {
		t.Errorf("of most of both the keys are %q", both)
	}
	many := txn.Keys(api.Txn{Reads: reads(400), Writes: writes(400)})
	if len(many) != 800 || !slices.IsSorted(many) {
		t.Errorf("of many there are %d keys", len(many))
	}
}

// routed is a route of pieces, each from a key on, of a shard.
func routed(t *testing.T, l ...api.Piece) *route.Route {
	t.Helper()
	for i := range l {
		l[i].Epoch = int64(i) + 1
	}
	r, err := route.Of(l)
	if err != nil {
		t.Fatal(fault.Text(err))
	}
	return r
}

// P10.1 (J2): the shards whose the keys are, rising, each once, be a key read or written; nothing without a route.
func TestShards(t *testing.T) {
	four := routed(t, api.Piece{Shard: 2}, api.Piece{From: "b", Shard: 0}, api.Piece{From: "d", Shard: 3}, api.Piece{From: "f", Shard: 2}, api.Piece{From: "h", Shard: 1})
	for _, x := range []struct {
		read, written []string
		want          []int
	}{
		{nil, nil, nil},
		{[]string{"a"}, nil, []int{2}},
		{nil, []string{"a"}, []int{2}},
		{[]string{""}, nil, []int{2}},
		{[]string{"b"}, nil, []int{0}},
		{nil, []string{"b\x00", "c"}, []int{0}},
		{[]string{"", "a"}, []string{"a", "a\xff"}, []int{2}},
		{[]string{"a", "f", "g"}, []string{"", "g"}, []int{2}},
		{[]string{"a"}, []string{"b"}, []int{0, 2}},
		{[]string{"b"}, []string{"a"}, []int{0, 2}},
		{[]string{"d", "h"}, nil, []int{1, 3}},
		{nil, []string{"a", "c", "e", "g", "i"}, []int{0, 1, 2, 3}},
		{[]string{"e", "i"}, []string{"c", "g"}, []int{0, 1, 2, 3}},
		{[]string{"i", "a", "i"}, []string{"e", "a"}, []int{1, 2, 3}},
		{[]string{"a" + key(longText)}, []string{"\xff" + key(longText)}, []int{1, 2}},
	} {
		one := of(x.read, x.written)
		if got := txn.Shards(one, four); !slices.Equal(got, x.want) {
			t.Errorf("of %.40q and %.40q the shards are %v, not %v", x.read, x.written, got, x.want)
		}
		for _, nowhere := range []*route.Route{nil, {}} {
			if got := txn.Shards(one, nowhere); len(got) > 0 {
				t.Errorf("without a route the shards are %v", got)
			}
		}
		want := x.want[:min(len(x.want), 1)]
		if len(want) == 1 {
			want = []int{3}
		}
		if got := txn.Shards(one, routed(t, api.Piece{Shard: 3})); !slices.Equal(got, want) {
			t.Errorf("of one piece the shards are %v", got)
		}
	}
}

// P10.1 (J2): whose a key is hangs on the route as it is then.
func TestShardsOfARouteThatMoves(t *testing.T) {
	r := routed(t, api.Piece{Shard: 1})
	x := of([]string{"a"}, []string{"m"})
	for _, step := range []struct {
		from, to string
		shard    int
		want     []int
	}{{"m", "n", 0, []int{0, 1}}, {"", "b", 3, []int{0, 3}}, {"n", "", 2, []int{0, 3}}, {"a", "z", 2, []int{2}}} {
		if err := r.Move(step.from, step.to, step.shard); err != nil {
			t.Fatal(fault.Text(err))
		}
		if got := txn.Shards(x, r); !slices.Equal(got, step.want) {
			t.Errorf("behind the move of %q to %q the shards are %v, not %v", step.from, step.to, got, step.want)
		}
	}
}

// having is a store of entries.
func having(t *testing.T, l ...api.Entry) *store.Store {
	t.Helper()
	s := store.Of(l)
	if s == nil {
		t.Fatalf("there is no store of %v", l)
	}
	return s
}

// has holds that a store has just these entries.
func has(t *testing.T, what string, s *store.Store, want []api.Entry) {
	t.Helper()
	if got := s.Range("", ""); !slices.Equal(got, want) {
		t.Errorf("%s: there are %v, not %v", what, got, want)
	}
}

// fits holds whether a transaction fits, and that nothing changes by asking.
func fits(t *testing.T, what string, x api.Txn, s *store.Store, keys []string, want bool) {
	t.Helper()
	had := s.Range("", "")
	for range 2 {
		if got := txn.Fits(x, s, keys); got != want {
			t.Errorf("%s: Fits of %q is %v", what, keys, got)
		}
	}
	has(t, what, s, had)
}

// P10.1 (J3): a read of a key that is asked for fits just if it has the version that is there, 0 of one that is not; of another key any does.
func TestFitsOfReads(t *testing.T) {
	s := having(t, api.Entry{Key: "a", Value: "x", Version: 5}, api.Entry{Key: "c", Version: 1}, api.Entry{Key: "e", Version: lastNum}, api.Entry{Key: "g", Version: lastNum + 1})
	for k, is := range map[string]int64{"": 0, "a": 5, "b": 0, "c": 1, "d": 0, "e": lastNum, "f": 0, "g": lastNum + 1} {
		for _, v := range []int64{is, is + 1, is - 1, 0, -is, is + 1<<32, lastNum, lastNum + 1, math.MaxInt64, math.MinInt64} {
			x := api.Txn{Num: 1, Reads: []api.Read{{Key: k, Version: v}}}
			what := fmt.Sprintf("%q of version %d", k, v)
			for _, keys := range [][]string{{k}, {k, k}, {"", "a", "b", "c", "d", "e", "f", "g"}, {"zz", k, "0"}} {
				fits(t, what, x, s, keys, v == is)
			}
			for _, keys := range [][]string{nil, {}, {"zz"}, {k + "\x00", k + "x"}, {"zz", "y"}} {
				fits(t, what, x, s, keys, true)
			}
		}
	}
}

// P10.1 (J3): each of several reads is asked for, wherever it stands; those of other keys are not.
func TestFitsOfSeveralReads(t *testing.T) {
	s, all := store.New(), []string(nil)
	for i := range most {
		all = append(all, odd(i))
		for range i {
			if err := s.Put(odd(i), "x"); err != nil {
				t.Fatal(err)
			}
		}
	}
	x := api.Txn{Num: 1}
	for i, k := range all {
		x.Reads = append(x.Reads, api.Read{Key: k, Version: int64(i)})
	}
	fits(t, "all", x, s, all, true)
	for at := range all {
		bad := copied(x)
		bad.Reads[at].Version++
		fits(t, fmt.Sprint("but ", at), bad, s, all, false)
		fits(t, fmt.Sprint("just ", at), bad, s, all[at:at+1], false)
		fits(t, fmt.Sprint("all others than ", at), bad, s, slices.Delete(slices.Clone(all), at, at+1), true)
		backwards := slices.Clone(all)
		slices.Reverse(backwards)
		fits(t, fmt.Sprint("but ", at), bad, s, backwards, false)
	}
}

// filled is a store of so many entries, at odd keys.
func filled(t *testing.T, n int) *store.Store {
	t.Helper()
	var l []api.Entry
	for i := range n {
		l = append(l, api.Entry{Key: odd(i), Value: "x", Version: int64(i + 1)})
	}
	return having(t, l...)
}

// P10.1 (J3): room is wanted for as many keys as are written, asked for, and not there: no less will do, and for keys that are there, and for others, none is wanted.
func TestFitsOfRoom(t *testing.T) {
	var fresh, there []string
	for i := range most {
		fresh = append(fresh, even(i))
		there = append(there, odd(i))
	}
	for n := range most + 1 {
		for room := range most + 2 {
			s := filled(t, mostStored-room)
			what := fmt.Sprint(n, " new keys, room for ", room)
			x := of(nil, fresh[:n])
			fits(t, what, x, s, fresh, room >= n)
			fits(t, what+", asked for alone", x, s, fresh[:n], room >= n)
			for m := range n {
				fits(t, fmt.Sprint(what, ", of which ", m, " are asked for"), x, s, fresh[:m], room >= m)
				fits(t, fmt.Sprint(what, ", of which the last ", m, " are asked for"), x, s, fresh[n-m:n], room >= m)
			}
			fits(t, what+", none asked for", x, s, there, true)
			fits(t, what+", nothing asked for", x, s, nil, true)
			fits(t, what+", that are read", of(fresh[:n], nil), s, fresh, true)

			both := of(nil, slices.Sorted(slices.Values(append(slices.Clone(fresh[:n]), there[n:]...))))
			fits(t, what+", and others that are there", both, s, append(slices.Clone(fresh), there...), room >= n)
		}
	}
	s := filled(t, mostStored)
	fits(t, "keys that are there", of(nil, there), s, there, true)
	fits(t, "a key that is there, and none", of(nil, append(slices.Clone(there[:7]), "zz")), s, there, true)
	fits(t, "a key that is not there", of(nil, []string{"zz"}), s, []string{"zz"}, false)
}

// P10.1 (J3): reads and room are both asked for.
func TestFitsOfBoth(t *testing.T) {
	s := filled(t, mostStored-1)
	keys := []string{odd(0), odd(1), "a", "b"}
	for _, x := range []struct {
		version int64
		written []string
		want    bool
	}{{1, []string{"a"}, true}, {2, []string{"a"}, false}, {1, []string{"a", "b"}, false}, {2, []string{"a", "b"}, false}, {1, []string{odd(0), "a"}, true}, {1, nil, true}, {0, nil, false}} {
		one := of([]string{odd(0)}, x.written)
		one.Reads[0].Version = x.version
		fits(t, fmt.Sprint(x), one, s, keys, x.want)
	}
	// Of what is written alone nothing is to be of a version, whatever a read of another key says.
	fits(t, "a read of none asked for", api.Txn{Num: 1, Reads: []api.Read{{Key: odd(5), Version: 99}}, Writes: []api.Write{{Key: "a"}}}, s, keys, true)
	fits(t, "an empty one", api.Txn{}, s, keys, true)
	fits(t, "an empty one, of nothing", api.Txn{}, store.New(), nil, true)
}

// applied holds the error of an Apply against its text, and what is there then.
func applied(t *testing.T, what string, x api.Txn, s *store.Store, keys []string, text string, want []api.Entry) {
	t.Helper()
	told(t, what+": Apply", txn.Apply(x, s, keys), text)
	has(t, what, s, want)
}

// P10.1 (J3), P10.3: keys that are new have version 1, those that are there the next one; what is read alone, and what is not asked for, stays.
func TestApply(t *testing.T) {
	had := []api.Entry{{Key: "a", Value: "old a", Version: 4}, {Key: "c", Value: "old c", Version: 1}, {Key: "e", Value: "old e", Version: 7}}
	x := api.Txn{Num: 1, Reads: []api.Read{{Key: "a", Version: 4}, {Key: "e", Version: 7}}, Writes: []api.Write{{Key: "", Value: "new"}, {Key: "a", Value: ""}, {Key: "b", Value: "new b"}, {Key: "c", Value: "new c"}, {Key: "f", Value: value(longValue)}}}
	after := []api.Entry{{Key: "", Value: "new", Version: 1}, {Key: "a", Value: "", Version: 5}, {Key: "b", Value: "new b", Version: 1}, {Key: "c", Value: "new c", Version: 2}, {Key: "e", Value: "old e", Version: 7}, {Key: "f", Value: value(longValue), Version: 1}}

	for _, keys := range [][]string{{"", "a", "b", "c", "f"}, {"", "a", "b", "c", "d", "e", "f", "g"}, {"f", "c", "b", "a", "", "a"}} {
		s := having(t, had...)
		applied(t, "all", x, s, keys, "", after)
	}
	for _, keys := range [][]string{nil, {}, {"d"}, {"e"}, {"a\x00", "aa", "zz"}} {
		s := having(t, had...)
		applied(t, fmt.Sprintf("%q", keys), x, s, keys, "", had)
	}
	applied(t, "a alone", x, having(t, had...), []string{"a"}, "", []api.Entry{{Key: "a", Value: "", Version: 5}, had[1], had[2]})
	applied(t, "b and c", x, having(t, had...), []string{"c", "b"}, "", []api.Entry{had[0], after[2], after[3], had[2]})
	applied(t, "reads alone", of([]string{"a", "d"}, nil), having(t, had...), []string{"a", "d"}, "", had)
	applied(t, "nothing", api.Txn{}, having(t, had...), []string{"a"}, "", had)
}

// P10.1 (J3): what was there before does not hang on what is read, and what is applied again has the next version again.
func TestApplyAgain(t *testing.T) {
	s := store.New()
	x := api.Txn{Num: 1, Reads: []api.Read{{Key: "a", Version: 9}}, Writes: []api.Write{{Key: "a", Value: "x"}, {Key: "b", Value: "y"}}}
	for i := range int64(5) {
		applied(t, fmt.Sprint("time ", i), x, s, []string{"a", "b"}, "", []api.Entry{{Key: "a", Value: "x", Version: i + 1}, {Key: "b", Value: "y", Version: i + 1}})
	}
	// Of a transaction that is not right each write is put, in order: the last one of a key stays.
	x.Writes = []api.Write{{Key: "b", Value: "1"}, {Key: "a", Value: "2"}, {Key: "b", Value: "3"}}
	applied(t, "out of order", x, s, []string{"a", "b"}, "", []api.Entry{{Key: "a", Value: "2", Version: 6}, {Key: "b", Value: "3", Version: 7}})
}

// P10.1 (J3): a store without room ends it at the first key that is new; what was put ahead of that stays, and nothing behind it is put.
func TestApplyToAFullStore(t *testing.T) {
	s := filled(t, mostStored)
	had := s.Range("", "")
	x := of(nil, []string{odd(0), odd(1), "a", odd(2), "b"})
	keys := []string{odd(0), odd(1), odd(2), "a", "b"}
	want := slices.Clone(had)
	want[0] = api.Entry{Key: odd(0), Value: "new 0", Version: 2}
	want[1] = api.Entry{Key: odd(1), Value: "new 1", Version: 3}
	applied(t, "full", x, s, keys, "txn 0: store 128"+full, want)

	want[2] = api.Entry{Key: odd(2), Value: "new 3", Version: 4}
	want[0] = api.Entry{Key: odd(0), Value: "new 0", Version: 3}
	want[1] = api.Entry{Key: odd(1), Value: "new 1", Version: 4}
	applied(t, "full, but none of the new ones asked for", x, s, keys[:3], "", want)

	s = filled(t, mostStored-1)
	want = append(slices.Clone(had[:mostStored-1]), api.Entry{Key: "a", Value: "new 0", Version: 1})
	applied(t, "room for one of two", of(nil, []string{"a", "b"}), s, []string{"a", "b"}, "txn 0: store 128"+full, want)
	applied(t, "room for none", of(nil, []string{"a0", "b"}), s, []string{"a0", "b"}, "txn 0: store 128"+full, want)
}

// P10.1 (J3): a version at its end, and what is too long, ends it alike; one that is not asked for does not.
func TestApplyThatMayNotBe(t *testing.T) {
	had := []api.Entry{{Key: "a", Value: "old a", Version: 4}, {Key: "b", Value: "old b", Version: endVersion}, {Key: "c", Value: "old c", Version: endVersion - 1}}
	keys := []string{"a", "b", "c", "d", key(longKey + 1)}
	newA := api.Entry{Key: "a", Value: "new 0", Version: 5}

	applied(t, "an end", of(nil, []string{"a", "b", "c"}), having(t, had...), keys, "txn 0: store 3"+arg, []api.Entry{newA, had[1], had[2]})
	applied(t, "an end, not asked for", of(nil, []string{"a", "b", "d"}), having(t, had...), []string{"a", "c", "d"}, "", []api.Entry{newA, had[1], had[2], {Key: "d", Value: "new 2", Version: 1}})
	s := having(t, had...)
	last := api.Entry{Key: "c", Value: "new 0", Version: endVersion}
	applied(t, "one below the end", of(nil, []string{"c"}), s, keys, "", []api.Entry{had[0], had[1], last})
	applied(t, "and then", of(nil, []string{"c"}), s, keys, "txn 0: store 3"+arg, []api.Entry{had[0], had[1], last})

	long := of(nil, []string{"a", key(longKey + 1), "d"})
	applied(t, "a long key", long, having(t, had...), keys, "txn 0: store 3"+arg, []api.Entry{newA, had[1], had[2]})
	applied(t, "a long key, not asked for", long, having(t, had...), keys[:4], "", []api.Entry{newA, had[1], had[2], {Key: "d", Value: "new 2", Version: 1}})
	long = of(nil, []string{"a", "c", "d"})
	long.Writes[1].Value = value(longValue + 1)
	applied(t, "a long value", long, having(t, had...), keys, "txn 0: store 3"+arg, []api.Entry{newA, had[1], had[2]})

	// A new key ahead of it counts among the entries that the error tells.
	applied(t, "behind a new one", of(nil, []string{"", "b"}), having(t, had...), append(keys, ""), "txn 0: store 4"+arg, append([]api.Entry{{Value: "new 0", Version: 1}}, had...))
	fullOne := filled(t, mostStored)
	applied(t, "a long key of a full store", of(nil, []string{key(longKey + 1)}), fullOne, keys, "txn 0: store 128"+arg, fullOne.Range("", ""))
}

// plain is a store as a plain map of its keys.
type plain map[string]api.Entry

func (p plain) entries() []api.Entry {
	var l []api.Entry
	for _, k := range slices.Sorted(maps.Keys(p)) {
		l = append(l, p[k])
	}
	return l
}

// fits is what J3 asks, of a plain map.
func (p plain) fits(x api.Txn, keys map[string]int) bool {
	for _, r := range x.Reads {
		if keys[r.Key] > 0 && p[r.Key].Version != r.Version {
			return false
		}
	}
	many := len(p)
	for _, w := range x.Writes {
		if _, there := p[w.Key]; keys[w.Key] > 0 && !there {
			many++
		}
	}
	return many <= mostStored
}

// P10.3: whatever comes: what fits is applied without an error, and just the keys that are written, and asked for, change, each to its value, of the next version.
func TestWhatFitsIsApplied(t *testing.T) {
	for _, among := range []int{4, 12, 140} {
		d, p, s := dice(among), plain{}, store.New()
		fitting, not := 0, 0
		for step := range 4000 {
			if len(p) == mostStored && d.roll(9) == 0 {
				from := odd(d.roll(among))
				s.Drop(from, from+"9")
				delete(p, from)
			}
			x, keys := d.txn(among), d.row(among)
			for i := range x.Reads {
				if d.roll(3) > 0 {
					x.Reads[i].Version = p[x.Reads[i].Key].Version
				}
			}
			if d.roll(2) == 0 {
				keys = txn.Keys(x)
			}
			asked := map[string]int{}
			for _, k := range keys {
				asked[k] = 1
			}
			want := p.fits(x, asked)
			fits(t, fmt.Sprint("step ", step), x, s, keys, want)
			if !want {
				not++
				continue
			}
			fitting++
			for _, w := range x.Writes {
				if asked[w.Key] > 0 {
					p[w.Key] = api.Entry{Key: w.Key, Value: w.Value, Version: p[w.Key].Version + 1}
				}
			}
			applied(t, fmt.Sprint("step ", step), x, s, keys, "", p.entries())
			if t.Failed() {
				return
			}
		}
		if fitting < 500 || not < 100 {
			t.Errorf("among %d: %d that fit and %d that do not tell too little", among, fitting, not)
		}
	}
}

// P3: lists that are handed in are not changed, nor their spare room.
func TestListsThatAreHandedIn(t *testing.T) {
	r := routed(t, api.Piece{}, api.Piece{From: "m", Shard: 1})
	x := of([]string{"c", "a", "p", "p"}, []string{"z", "b", "c", "b"})
	had := copied(x)
	keys := []string{"z", "c", "b", "c", "a", "y", "x"}
	hadKeys := slices.Clone(keys)
	part := api.Txn{Client: x.Client, Num: x.Num, Reads: x.Reads[:2], Writes: x.Writes[:2]}

	ask := func(one api.Txn, keys []string) {
		s := store.New()
		_ = txn.Check(one)
		_, _ = txn.Put(one)
		txn.Keys(one)
		txn.Shards(one, r)
		txn.Fits(one, s, keys)
		_ = txn.Apply(one, s, keys)
	}
	ask(x, keys)
	ask(part, keys[:5])
	if !alike(x, had) || !slices.Equal(keys, hadKeys) {
		t.Errorf("what was handed in is changed: %v, %v", x, keys)
	}

	b := append(written(example()), "spare"...)
	before := slices.Clone(b)
	_, _ = txn.Get(b[:len(b)-5])
	if !bytes.Equal(b, before) {
		t.Errorf("the bytes that were handed in are changed: %x", b)
	}
	if l := r.Pieces(); len(l) != 2 {
		t.Errorf("the route is changed: %v", l)
	}
}

// P3: what was handed in may change then: neither what was answered nor a store changes by that.
func TestWhatWasHandedInMayChange(t *testing.T) {
	x, b := example(), written(example())
	y, err := txn.Get(b)
	told(t, "Get", err, "")
	made, err := txn.Put(x)
	told(t, "Put", err, "")
	s, keys := store.New(), []string{"a", "c", "p"}
	told(t, "Apply", txn.Apply(x, s, keys), "")
	named := txn.Keys(x)

	for i := range b {
		b[i] = 0xee
	}
	for i := range x.Reads {
		x.Reads[i] = api.Read{Key: "changed", Version: 77}
		x.Writes[i] = api.Write{Key: "changed", Value: "changed"}
	}
	clear(keys)
	if !alike(y, example()) || !bytes.Equal(made, written(example())) || !slices.Equal(named, []string{"a", "c", "p"}) {
		t.Errorf("what was answered is %v, %x, %q then", y, made, named)
	}
	has(t, "then", s, []api.Entry{{Key: "a", Value: "1", Version: 1}, {Key: "c", Value: "2", Version: 1}})
}

// spoil changes a list, and its spare room.
func spoil[T any](l []T, to T) {
	for i := range l[:cap(l)] {
		l[:cap(l)][i] = to
	}
}

// P3: what was answered may change then, its spare room too: what was handed in, and other answers, stay as they are.
func TestWhatWasAnsweredMayChange(t *testing.T) {
	r := routed(t, api.Piece{}, api.Piece{From: "m", Shard: 1})
	for name, x := range rightOnes() {
		had, b := copied(x), written(x)
		for range 2 {
			got(t, name, b, had, "")
			y, _ := txn.Get(b)
			spoil(y.Reads, api.Read{Key: "changed"})
			if !slices.Equal(y.Writes, had.Writes) {
				t.Errorf("%s: the reads and the writes of one answer share memory", name)
			}
			spoil(y.Writes, api.Write{Key: "changed"})

			made, err := txn.Put(x)
			if err != nil || !bytes.Equal(made, b) {
				t.Errorf("%s: Put is %x, %v", name, made, err)
			}
			spoil(made, 0xee)

			first, second := txn.Keys(x), txn.Keys(x)
			spoil(first, "changed")
			if !slices.Equal(second, txn.Keys(x)) || !slices.IsSorted(second) || slices.Contains(second, "changed") {
				t.Errorf("%s: the keys are %q then", name, second)
			}
			shards, also := txn.Shards(x, r), txn.Shards(x, r)
			spoil(shards, 9)
			if !slices.Equal(also, txn.Shards(x, r)) || slices.Contains(also, 9) {
				t.Errorf("%s: the shards are %v then", name, also)
			}
		}
		if !alike(x, had) || !bytes.Equal(b, written(had)) {
			t.Errorf("%s: what was handed in is %v then", name, x)
		}
	}
}

// P1: of a transaction that is not right, however great, every call is answered.
func TestGreatOnes(t *testing.T) {
	const n = 50000
	x := api.Txn{Client: math.MinInt, Num: math.MinInt64, Reads: make([]api.Read, n), Writes: make([]api.Write, n)}
	keys := make([]string, n)
	for i := range n {
		keys[i] = fmt.Sprint(i, key(20))
		x.Reads[n-1-i].Key = keys[i]
		x.Writes[i].Key = keys[i]
	}
	wrong(t, "great", x, "txn 0: int 16"+tooMany)
	if l := txn.Keys(x); len(l) != n || !slices.IsSorted(l) {
		t.Errorf("there are %d keys", len(l))
	}
	if l := txn.Shards(x, routed(t, api.Piece{Shard: 1})); !slices.Equal(l, []int{1}) {
		t.Errorf("the shards are %v", l)
	}
	s := store.New()
	fits(t, "great", x, s, keys, false)
	fits(t, "great, of few keys", x, s, keys[:mostStored], true)
	fits(t, "great, of one more", x, s, keys[:mostStored+1], false)
	applied(t, "great", x, s, keys, "txn 0: store 0"+arg, nil)
}
