package say_test

import (
	"bytes"
	"encoding/binary"
	"errors"
	"fmt"
	"maps"
	"math"
	"slices"
	"strings"
	"testing"

	"cohort/api"
	"cohort/book"
	"cohort/fault"
	"cohort/say"
)

// The bounds, as the chapters count them: the last kinds, the last shard, epoch, number and digest, how many bytes of a key, of a value and of any text, how many of a row, and how many texts of a book.
const (
	lastSay    = 9
	lastOrder  = 10
	lastShard  = 3
	lastEpoch  = 1 << 40
	lastNum    = 1 << 40
	lastDigest = 1<<31 - 1
	longKey    = 16
	longValue  = 64
	longText   = 1 << 16
	row        = 1024
	bookful    = 1 << 16
)

// The errors as they are told behind their steps.
const (
	tooMany  = ": cohort: error 2"
	end      = ": cohort: error 21"
	left     = ": cohort: error 22"
	sign     = ": cohort: error 23"
	notTxn   = ": cohort: error 101"
	notSay   = ": cohort: error 111"
	notOrder = ": cohort: error 112"
)

func key(long int) string { return strings.Repeat("k", long) }

func value(long int) string { return strings.Repeat("v", long) }

// far are numbers that are outside of all bounds; some of them are small ones once they are cut short.
func far() []int64 {
	return []int64{math.MinInt64, math.MinInt64 + 2, math.MaxInt64, 1<<63 - 1<<32 + 1, -1 << 32, -1<<32 + 2, -1 << 40, 1<<40 + 1, 1 << 41, 1<<41 + 2}
}

// farInts are such ones of fields that have no number above 2^31 - 1.
func farInts() []int64 { return append(far(), 1<<31, 1<<31+1, 1<<32, 1<<32+1, 1<<32+3, 1<<40) }

// part is what a Reader reads at once.
type part struct {
	where string
	bytes []byte
}

// num, text and nums are parts as the bytes of wire's chapter, so that no test leans on the program's own way to write them; count is a number that is read as an Int.
func num(n int64) part { return part{"num", binary.BigEndian.AppendUint64(nil, uint64(n))} }

func count(n int64) part { return part{"int", num(n).bytes} }

func text(s string) part {
	return part{"text", append(binary.BigEndian.AppendUint32(nil, uint32(len(s))), s...)}
}

func nums(l []int) part {
	b := binary.BigEndian.AppendUint32(nil, uint32(len(l)))
	for _, n := range l {
		b = binary.BigEndian.AppendUint64(b, uint64(n))
	}
	return part{"nums", b}
}

func joined(l ...part) []byte {
	var b []byte
	for _, p := range l {
		b = append(b, p.bytes...)
	}
	return b
}

// sayParts are those of something, may it be said or not.
func sayParts(s api.Say) []part {
	yes := int64(0)
	if s.Yes {
		yes = 1
	}
	return []part{num(int64(s.Kind)), num(int64(s.Txn)), count(yes), text(s.From), text(s.To), num(s.Epoch), num(int64(s.Shard)), num(int64(s.Target)), num(int64(s.Root))}
}

func sayBytes(s api.Say) []byte { return joined(sayParts(s)...) }

// txnBytes are a transaction's, be it right or not.
func txnBytes(t api.Txn) []byte {
	l := []part{num(int64(t.Client)), num(t.Num), count(int64(len(t.Reads)))}
	for _, x := range t.Reads {
		l = append(l, text(x.Key), num(x.Version))
	}
	l = append(l, count(int64(len(t.Writes))))
	for _, x := range t.Writes {
		l = append(l, text(x.Key), text(x.Value))
	}
	return joined(l...)
}

func certBytes(c api.Cert) []byte {
	return joined(count(int64(c.Group)), count(int64(c.Digest)), nums(c.Signers))
}

// orderParts are those of an order, be it right or not.
func orderParts(o api.Order) []part {
	var ofTxn, ofSay []byte
	if o.Txn.Client != 0 || o.Txn.Num != 0 || len(o.Txn.Reads)+len(o.Txn.Writes) > 0 {
		ofTxn = txnBytes(o.Txn)
	}
	if o.Say != (api.Say{}) {
		ofSay = sayBytes(o.Say)
	}
	return withTexts(o, string(ofTxn), string(ofSay), string(certBytes(o.Cert)))
}

// withTexts are the parts of an order whose three texts are others.
func withTexts(o api.Order, ofTxn, ofSay, ofCert string) []part {
	p := o.Proof
	l := []part{num(int64(o.Kind)), text(ofTxn), text(ofSay), text(ofCert), count(int64(p.Many)), count(int64(p.First)), count(int64(len(p.L)))}
	for _, e := range p.L {
		l = append(l, text(e.Key), text(e.Value), num(e.Version))
	}
	return append(l, nums(p.Beside))
}

func orderBytes(o api.Order) []byte { return joined(orderParts(o)...) }

// told holds an error against its text; of an empty one there is to be none.
func told(t *testing.T, what string, err error, text string) {
	t.Helper()
	if fault.Text(err) != text || (err == nil) != (text == "") {
		t.Errorf("%s: error %q, not %q", what, fault.Text(err), text)
	}
}

// exampleSay has something of everything.
func exampleSay() api.Say {
	return api.Say{Kind: api.SayFreeze, Txn: 1, Yes: true, From: "a", To: "b", Epoch: 2, Shard: 3, Target: 1, Root: 9}
}

// spoiltSay is that one, but for something.
func spoiltSay(spoil func(s *api.Say)) api.Say {
	s := exampleSay()
	spoil(&s)
	return s
}

// rightSays are at the edges of what may be said.
func rightSays() map[string]api.Say {
	l := map[string]api.Say{
		"example":     exampleSay(),
		"least":       {Kind: 1},
		"most":        {Kind: lastSay, Txn: lastDigest, Yes: true, From: key(longKey), To: key(longKey), Epoch: lastEpoch, Shard: lastShard, Target: lastShard, Root: lastDigest},
		"range falls": {Kind: 4, From: "z", To: "a"},
		"runes":       {Kind: 4, From: strings.Repeat("é", longKey/2), To: "\x00"},
		"high bytes":  {Kind: 4, From: "\xff\xfe", To: strings.Repeat("\xff", longKey)},
	}
	for kind := 1; kind <= lastSay; kind++ {
		for _, yes := range []bool{false, true} {
			l[fmt.Sprint("kind ", kind, yes)] = spoiltSay(func(s *api.Say) { s.Kind, s.Yes = kind, yes })
		}
	}
	for _, d := range []int{0, 1, 1 << 16, lastDigest - 1, lastDigest} {
		l[fmt.Sprint("txn ", d)] = spoiltSay(func(s *api.Say) { s.Txn = d })
		l[fmt.Sprint("root ", d)] = spoiltSay(func(s *api.Say) { s.Root = d })
	}
	for _, k := range []string{"", "\x00", key(longKey - 1), key(longKey)} {
		l[fmt.Sprintf("from %q", k)] = spoiltSay(func(s *api.Say) { s.From = k })
		l[fmt.Sprintf("to %q", k)] = spoiltSay(func(s *api.Say) { s.To = k })
	}
	for _, e := range []int64{0, 1, 1 << 32, lastEpoch - 1, lastEpoch} {
		l[fmt.Sprint("epoch ", e)] = spoiltSay(func(s *api.Say) { s.Epoch = e })
	}
	for shard := range lastShard + 1 {
		l[fmt.Sprint("shard ", shard)] = spoiltSay(func(s *api.Say) { s.Shard = shard })
		l[fmt.Sprint("target ", shard)] = spoiltSay(func(s *api.Say) { s.Target = shard })
	}
	return l
}

// wrongSays are beside those edges.
func wrongSays() map[string]api.Say {
	l := map[string]api.Say{
		"zero":            {},
		"shard of none":   {Shard: 1},
		"yes of nothing":  {Yes: true},
		"all of it wrong": {Kind: -1, Txn: -1, From: key(longText), To: key(longText), Epoch: -1, Shard: -1, Target: -1, Root: -1},
		"all too great":   {Kind: 10, Txn: lastDigest + 1, From: key(longKey + 1), To: key(longKey + 1), Epoch: lastEpoch + 1, Shard: 4, Target: 4, Root: lastDigest + 1},
	}
	for _, n := range append(farInts(), 0, -1, lastSay+1, lastSay+2, 100) {
		l[fmt.Sprint("kind ", n)] = spoiltSay(func(s *api.Say) { s.Kind = int(n) })
	}
	for _, n := range append(farInts(), -1, -2) {
		l[fmt.Sprint("txn ", n)] = spoiltSay(func(s *api.Say) { s.Txn = int(n) })
		l[fmt.Sprint("root ", n)] = spoiltSay(func(s *api.Say) { s.Root = int(n) })
	}
	for _, k := range []string{key(longKey + 1), key(2 * longKey), strings.Repeat("é", longKey/2+1), strings.Repeat("\x00", longKey+1), key(longText)} {
		l[fmt.Sprintf("from %.60q", k)] = spoiltSay(func(s *api.Say) { s.From = k })
		l[fmt.Sprintf("to %.60q", k)] = spoiltSay(func(s *api.Say) { s.To = k })
	}
	for _, n := range append(far(), -1, lastEpoch+1) {
		l[fmt.Sprint("epoch ", n)] = spoiltSay(func(s *api.Say) { s.Epoch = n })
	}
	for _, n := range append(farInts(), -1, lastShard+1, lastShard+2, 100) {
		l[fmt.Sprint("shard ", n)] = spoiltSay(func(s *api.Say) { s.Shard = int(n) })
		l[fmt.Sprint("target ", n)] = spoiltSay(func(s *api.Say) { s.Target = int(n) })
	}
	return l
}

// gotSay holds what bytes are read as, or the error against its text.
func gotSay(t *testing.T, name string, b []byte, want api.Say, text string) {
	t.Helper()
	s, err := say.Get(b)
	told(t, name+": Get", err, text)
	if s != want {
		t.Errorf("%s: Get of %d bytes is %v, not %v", name, len(b), s, want)
	}
}

// notSaid holds that bytes say nothing, and what is told of them.
func notSaid(t *testing.T, name string, b []byte, text string) {
	t.Helper()
	gotSay(t, name, b, api.Say{}, text)
}

// P11.1 (K1), P11.2: what may be said has no error, just the bytes that the chapter tells, their digest, and comes back from them.
func TestWhatMayBeSaid(t *testing.T) {
	for name, s := range rightSays() {
		told(t, name+": Check", say.Check(s), "")
		b, err := say.Put(s)
		told(t, name+": Put", err, "")
		if !bytes.Equal(b, sayBytes(s)) {
			t.Errorf("%s: Put is %x, not %x", name, b, sayBytes(s))
		}
		gotSay(t, name, sayBytes(s), s, "")
		digested(t, name, book.New(), s, "", 0)
	}
}

// P11.1 (Types): the bytes of one of them, one by one.
func TestBytesOfASay(t *testing.T) {
	b, err := say.Put(api.Say{Kind: 7, Txn: 258, Yes: true, From: "ab", To: "", Epoch: 1<<40 - 2, Shard: 1, Target: 2, Root: 1<<31 - 1})
	want := "\x00\x00\x00\x00\x00\x00\x00\x07" + "\x00\x00\x00\x00\x00\x00\x01\x02" + "\x00\x00\x00\x00\x00\x00\x00\x01" +
		"\x00\x00\x00\x02ab" + "\x00\x00\x00\x00" + "\x00\x00\x00\xff\xff\xff\xff\xfe" +
		"\x00\x00\x00\x00\x00\x00\x00\x01" + "\x00\x00\x00\x00\x00\x00\x00\x02" + "\x00\x00\x00\x00\x7f\xff\xff\xff"
	if string(b) != want || err != nil {
		t.Errorf("%x, %v, not %x", b, err, want)
	}
	b, err = say.Put(api.Say{Kind: 1, To: "c"})
	want = "\x00\x00\x00\x00\x00\x00\x00\x01" + strings.Repeat("\x00", 16) + "\x00\x00\x00\x00" + "\x00\x00\x00\x01c" + strings.Repeat("\x00", 32)
	if string(b) != want || err != nil {
		t.Errorf("%x, %v, not %x", b, err, want)
	}
}

// P11.1: the chapter's example.
func TestTheChaptersExample(t *testing.T) {
	told(t, "a zero Say", say.Check(api.Say{}), "say 0: cohort: error 111")
}

// P11.1 (K1): what may not be said is told by its Kind, by each call; it has no bytes and no digest, and the book is not asked.
func TestWhatMayNotBeSaid(t *testing.T) {
	for name, s := range wrongSays() {
		why := fmt.Sprint("say ", s.Kind, notSay)
		told(t, name+": Check", say.Check(s), why)
		b, err := say.Put(s)
		told(t, name+": Put", err, why)
		if len(b) > 0 {
			t.Errorf("%s: with an error Put has %x", name, b)
		}
		notSaid(t, name, sayBytes(s), why)
		k := book.New()
		d, err := say.Digest(k, s)
		told(t, name+": Digest", err, why)
		if d != -1 || k.Many() != 0 {
			t.Errorf("%s: with an error the digest is %d, of a book of %d", name, d, k.Many())
		}
	}
}

// P11.1 (K1): bytes that are cut end in the part that is cut, wherever that is; with a byte more one is left.
func TestSaysThatAreCut(t *testing.T) {
	for _, all := range []map[string]api.Say{rightSays(), {"wrong": {Kind: 77, Txn: -4, From: key(99), Shard: 9}, "zero": {}}} {
		for name, s := range all {
			whole, began := sayBytes(s), 0
			for _, p := range sayParts(s) {
				for more := range p.bytes {
					notSaid(t, name, whole[:began+more], fmt.Sprintf("say 0: %s %d%s", p.where, began, end))
				}
				began += len(p.bytes)
			}
			for _, more := range []string{"\x00", "\xff", "ab", key(longText), string(whole)} {
				notSaid(t, name, append(slices.Clone(whole), more...), fmt.Sprintf("say 0: end %d%s", len(whole), left))
			}
		}
	}
	notSaid(t, "nothing", nil, "say 0: num 0"+end)
	notSaid(t, "nothing", []byte{}, "say 0: num 0"+end)
}

// P11.1 (K1): a Yes is 0 or 1; what the Reader says of another one is told, whatever is wrong beside it, or behind.
func TestYesOfBytes(t *testing.T) {
	behind := sayParts(exampleSay())[3:]
	for n, why := range map[int64]string{2: tooMany, 3: tooMany, 256: tooMany, 257: tooMany, 1 << 32: tooMany, 1<<32 + 1: tooMany, math.MaxInt64: tooMany, -1: sign, -1<<32 + 1: sign, math.MinInt64: sign, math.MinInt64 + 1: sign} {
		for _, kind := range []int64{4, 0, -1, lastSay + 1, math.MaxInt64} {
			for _, rest := range [][]part{behind, nil, behind[:3], append(slices.Clone(behind), text("x")), {text(key(longText + 1))}} {
				b := joined(slices.Concat([]part{num(kind), num(1), count(n)}, rest)...)
				notSaid(t, fmt.Sprint("yes of ", n), b, "say 0: int 16"+why)
			}
		}
	}
}

// P11.1 (K1): what the Reader says is told, may it be said or not; of its errors the first one.
func TestTheReaderIsFirst(t *testing.T) {
	for name, s := range wrongSays() {
		b := sayBytes(s)
		notSaid(t, name, append(slices.Clone(b), 0), fmt.Sprintf("say 0: end %d%s", len(b), left))
		notSaid(t, name, b[:len(b)-1], fmt.Sprintf("say 0: num %d%s", len(b)-8, end))
	}
	over := text(key(longText + 1))
	head := []part{num(0), num(-1), count(1)}
	tail := []part{num(0), num(0), num(0), num(0)}
	notSaid(t, "a key beyond all texts", joined(slices.Concat(head, []part{over, text("")}, tail)...), "say 0: text 24"+tooMany)
	notSaid(t, "and cut", joined(append(head, over)...)[:40], "say 0: text 24"+tooMany)
	notSaid(t, "the other key", joined(slices.Concat(head, []part{text("ab"), over}, tail)...), "say 0: text 30"+tooMany)
	notSaid(t, "both", joined(slices.Concat(head, []part{over, over}, tail)...), "say 0: text 24"+tooMany)
	notSaid(t, "a length of 2^32 - 1", joined(append(head, part{"text", []byte("\xff\xff\xff\xff")})...), "say 0: text 24"+tooMany)
	notSaid(t, "a Yes ahead of it", joined(num(4), num(1), count(2), over), "say 0: int 16"+tooMany)
	notSaid(t, "the longest text", joined(slices.Concat([]part{num(4), num(1), count(1), text(key(longText)), text("")}, tail)...), "say 4"+notSay)
}

// digested holds the digest of something, that its bytes alone came to the book, and that it is the same again.
func digested(t *testing.T, name string, k *book.Book, s api.Say, text string, want int) {
	t.Helper()
	for range 2 {
		d, err := say.Digest(k, s)
		told(t, name+": Digest", err, text)
		if d != want {
			t.Errorf("%s: the digest is %d, not %d", name, d, want)
		}
	}
	if want < 0 {
		return
	}
	if b, err := k.Text(want); err != nil || !bytes.Equal(b, sayBytes(s)) {
		t.Errorf("%s: in the book there is %x, %v", name, b, err)
	}
}

// P11.1 (K1): the digest is that of the bytes in the book: the one that they have there already, or the next.
func TestDigest(t *testing.T) {
	k := book.New()
	for i, s := range []string{"a", string(sayBytes(exampleSay())), "b"} {
		if d, err := k.Digest([]byte(s)); d != i || err != nil {
			t.Fatal(d, err)
		}
	}
	digested(t, "there already", k, exampleSay(), "", 1)
	other := spoiltSay(func(s *api.Say) { s.Yes = false })
	digested(t, "another one", k, other, "", 3)
	digested(t, "one more", k, api.Say{Kind: 1}, "", 4)
	digested(t, "the first again", k, exampleSay(), "", 1)
	digested(t, "the other again", k, other, "", 3)
	if k.Many() != 5 {
		t.Errorf("there are %d texts", k.Many())
	}
}

// P11.1 (K1): a book that is full has a digest of what is in it alone; what may not be said is told ahead of that.
func TestDigestOfAFullBook(t *testing.T) {
	k := book.New()
	there := api.Say{Kind: 9, Root: 3}
	digested(t, "there", k, there, "", 0)
	for i := range bookful - 1 {
		if _, err := k.Digest(binary.BigEndian.AppendUint32(nil, uint32(i))); err != nil {
			t.Fatal(fault.Text(err))
		}
	}
	digested(t, "there", k, there, "", 0)
	for kind := 1; kind <= lastSay; kind++ {
		digested(t, "not there", k, api.Say{Kind: kind}, fmt.Sprint("say ", kind, ": book 65536", tooMany), -1)
	}
	digested(t, "may not be", k, api.Say{Kind: 3, Shard: 4}, "say 3"+notSay, -1)
	digested(t, "zero", k, api.Say{}, "say 0"+notSay, -1)
	if k.Many() != bookful {
		t.Errorf("there are %d texts", k.Many())
	}
}

// P11.3: things that differ in one part alone have unlike digests, and those that are alike the same.
func TestUnlikeThingsHaveUnlikeDigests(t *testing.T) {
	k, met := book.New(), map[api.Say]int{}
	ask := func(s api.Say) {
		d, err := say.Digest(k, s)
		if had, is := met[s]; err != nil || d < 0 || is && had != d {
			t.Fatalf("%v has the digest %d, %v; before %d", s, d, err, had)
		}
		met[s] = d
	}
	for _, s := range rightSays() {
		ask(s)
	}
	for i := range 1 << 13 {
		bit := func(at int) int { return i >> at & 1 }
		// Texts that one behind the other are alike stand among them.
		keys := []string{"", "a", "ab", "b", "bc", "c", "\x00", "\x00\x00"}
		s := api.Say{Kind: 1 + bit(0), Txn: bit(1), Yes: bit(2) == 1, Epoch: int64(bit(3)), Shard: bit(4), Target: bit(5), Root: bit(6), From: keys[i>>7&7], To: keys[i>>10&7]}
		ask(s)
		ask(s)
	}
	whose := map[int]api.Say{}
	for s, d := range met {
		if other, is := whose[d]; is {
			t.Errorf("%v and %v have the digest %d", s, other, d)
		}
		whose[d] = s
	}
	if k.Many() != len(met) {
		t.Errorf("of %d things there are %d texts", len(met), k.Many())
	}
}

// exampleTxn is right, and has something of everything.
func exampleTxn() api.Txn {
	return api.Txn{Client: 2, Num: 3, Reads: []api.Read{{Key: "c", Version: 1}}, Writes: []api.Write{{Key: "a", Value: "1"}, {Key: "c", Value: "2"}}}
}

// exampleOrder is one of a transaction, with something of everything.
func exampleOrder() api.Order {
	return api.Order{Kind: api.DoPrepare, Txn: exampleTxn(), Say: exampleSay(), Cert: api.Cert{Group: 2, Digest: 7, Signers: []int{1, 2, 0}},
		Proof: api.Proof{Many: 5, First: 1, L: []api.Entry{{Key: "k", Value: "v", Version: 3}, {Key: "l"}}, Beside: []int{4, 0}}}
}

// spoiltOrder is one without a transaction, but for something.
func spoiltOrder(spoil func(o *api.Order)) api.Order {
	o := exampleOrder()
	o.Kind, o.Txn = api.DoImport, api.Txn{}
	spoil(&o)
	return o
}

// entries are so many that may be, in no order; numbers so many digests.
func entries(n int) []api.Entry {
	var l []api.Entry
	for i := range n {
		l = append(l, api.Entry{Key: key(n - i)[:min(n-i, longKey)], Value: value(i % (longValue + 1)), Version: int64(n - i)})
	}
	return l
}

func numbers(n int) []int {
	var l []int
	for i := range n {
		l = append(l, lastDigest-i%3)
	}
	return l
}

func sameTxn(a, b api.Txn) bool {
	return a.Client == b.Client && a.Num == b.Num && slices.Equal(a.Reads, b.Reads) && slices.Equal(a.Writes, b.Writes)
}

func sameCert(a, b api.Cert) bool {
	return a.Group == b.Group && a.Digest == b.Digest && slices.Equal(a.Signers, b.Signers)
}

func sameProof(a, b api.Proof) bool {
	return a.Many == b.Many && a.First == b.First && slices.Equal(a.L, b.L) && slices.Equal(a.Beside, b.Beside)
}

func same(a, b api.Order) bool {
	return a.Kind == b.Kind && sameTxn(a.Txn, b.Txn) && a.Say == b.Say && sameCert(a.Cert, b.Cert) && sameProof(a.Proof, b.Proof)
}

// copied is an order that shares no list with o.
func copied(o api.Order) api.Order {
	o.Txn.Reads, o.Txn.Writes = slices.Clone(o.Txn.Reads), slices.Clone(o.Txn.Writes)
	o.Cert.Signers = slices.Clone(o.Cert.Signers)
	o.Proof.L, o.Proof.Beside = slices.Clone(o.Proof.L), slices.Clone(o.Proof.Beside)
	return o
}

// rightOrders are at the edges of what may be ordered.
func rightOrders() map[string]api.Order {
	l := map[string]api.Order{
		"example":        exampleOrder(),
		"bare":           {Kind: 2},
		"begin":          {Kind: api.DoBegin, Txn: exampleTxn()},
		"least txn":      {Kind: api.DoPrepare, Txn: api.Txn{Num: 1, Reads: []api.Read{{}}}},
		"empty lists":    {Kind: 2, Txn: api.Txn{Reads: []api.Read{}, Writes: []api.Write{}}, Cert: api.Cert{Signers: []int{}}, Proof: api.Proof{L: []api.Entry{}, Beside: []int{}}},
		"odd proof":      spoiltOrder(func(o *api.Order) { o.Proof.Many, o.Proof.First, o.Proof.Beside = 0, 9, nil }),
		"keys fall":      spoiltOrder(func(o *api.Order) { o.Proof.L = []api.Entry{{Key: "b"}, {Key: "a"}, {Key: "a"}} }),
		"signers fall":   spoiltOrder(func(o *api.Order) { o.Cert.Signers = []int{9, 9, 3} }),
		"greatest cert":  spoiltOrder(func(o *api.Order) { o.Cert = api.Cert{Group: lastDigest, Digest: lastDigest, Signers: numbers(row)} }),
		"longest of all": {Kind: lastOrder, Say: rightSays()["most"], Cert: api.Cert{Signers: numbers(row)}, Proof: api.Proof{Many: row, First: row, L: longest(), Beside: numbers(row)}},
	}
	for kind := 1; kind <= lastOrder; kind++ {
		o := api.Order{Kind: kind}
		if kind == api.DoPrepare || kind == api.DoBegin {
			o.Txn = exampleTxn()
		}
		l[fmt.Sprint("kind ", kind)] = o
	}
	for name, s := range rightSays() {
		l["say "+name] = spoiltOrder(func(o *api.Order) { o.Say = s })
	}
	for _, n := range []int{0, 1, 2, 8, row - 1, row} {
		l[fmt.Sprint("many ", n)] = spoiltOrder(func(o *api.Order) { o.Proof.Many = n })
		l[fmt.Sprint("first ", n)] = spoiltOrder(func(o *api.Order) { o.Proof.First = n })
		l[fmt.Sprint("entries ", n)] = spoiltOrder(func(o *api.Order) { o.Proof.L = entries(n) })
		l[fmt.Sprint("beside ", n)] = spoiltOrder(func(o *api.Order) { o.Proof.Beside = numbers(n) })
		l[fmt.Sprint("signers ", n)] = spoiltOrder(func(o *api.Order) { o.Cert.Signers = numbers(n) })
	}
	for _, d := range []int{0, 1, lastDigest - 1, lastDigest} {
		l[fmt.Sprint("beside a ", d)] = spoiltOrder(func(o *api.Order) { o.Proof.Beside = []int{d, 1, d} })
		l[fmt.Sprint("signed by ", d)] = spoiltOrder(func(o *api.Order) { o.Cert.Signers = []int{d, 1, d} })
		l[fmt.Sprint("group ", d)] = spoiltOrder(func(o *api.Order) { o.Cert.Group = d })
		l[fmt.Sprint("digest ", d)] = spoiltOrder(func(o *api.Order) { o.Cert.Digest = d })
	}
	for _, e := range []api.Entry{{}, {Key: key(longKey)}, {Value: value(longValue)}, {Key: "\x00", Value: "\xff"}, {Key: strings.Repeat("é", longKey/2), Value: strings.Repeat("é", longValue/2)}} {
		for _, version := range append(far(), 0, 1, -1, lastNum) {
			e.Version = version
			l[fmt.Sprintf("entry %.30q", fmt.Sprint(e))] = spoiltOrder(func(o *api.Order) { o.Proof.L = []api.Entry{{Key: "x"}, e, {Key: "y"}} })
		}
	}
	return l
}

// longest are as many entries as may be, each as long as it may be: their bytes are more than those of any text.
func longest() []api.Entry {
	l := make([]api.Entry, row)
	for i := range l {
		l[i] = api.Entry{Key: key(longKey), Value: value(longValue), Version: lastNum}
	}
	return l
}

// gotOrder holds what bytes are read as, or the error against its text.
func gotOrder(t *testing.T, name string, b []byte, want api.Order, text string) {
	t.Helper()
	o, err := say.GetOrder(b)
	told(t, name+": GetOrder", err, text)
	if !same(o, want) {
		t.Errorf("%s: GetOrder of %d bytes is %.300q, not %.300q", name, len(b), fmt.Sprint(o), fmt.Sprint(want))
	}
}

// refused holds that bytes are no order, and what is told of them.
func refused(t *testing.T, name string, b []byte, text string) {
	t.Helper()
	gotOrder(t, name, b, api.Order{}, text)
}

// wrong holds that an order is none, told by its Kind, and that its bytes, as they would be, are refused with a text; of an empty one, with the same.
func wrong(t *testing.T, name string, o api.Order, read string) {
	t.Helper()
	why := fmt.Sprint("order ", o.Kind, notOrder)
	b, err := say.PutOrder(o)
	told(t, name+": PutOrder", err, why)
	if len(b) > 0 {
		t.Errorf("%s: with an error PutOrder has %d bytes", name, len(b))
	}
	if read == "" {
		read = why
	}
	refused(t, name, orderBytes(o), read)
}

// right holds an order's bytes, and that it comes back from them.
func right(t *testing.T, name string, o api.Order) {
	t.Helper()
	b, err := say.PutOrder(o)
	told(t, name+": PutOrder", err, "")
	if !bytes.Equal(b, orderBytes(o)) {
		t.Errorf("%s: PutOrder is %.300x, not %.300x", name, b, orderBytes(o))
	}
	gotOrder(t, name, orderBytes(o), o, "")
}

// P11.1 (K2), P11.2: what is ordered has just the bytes that the chapter tells, however many, and comes back from them.
func TestRightOrders(t *testing.T) {
	for name, o := range rightOrders() {
		right(t, name, o)
	}
	if n := len(orderBytes(rightOrders()["longest of all"])); n <= longText {
		t.Errorf("the longest one has but %d bytes", n)
	}
}

// P11.1 (Types): the bytes of two orders, one by one.
func TestBytesOfAnOrder(t *testing.T) {
	b, err := say.PutOrder(api.Order{Kind: 3, Cert: api.Cert{Group: 1, Digest: 2, Signers: []int{5}}, Proof: api.Proof{Many: 258, First: 4, L: []api.Entry{{Key: "ab", Value: "c", Version: -2}}, Beside: []int{6, 7}}})
	zeros := "\x00\x00\x00\x00\x00\x00\x00"
	want := zeros + "\x03" + "\x00\x00\x00\x00" + "\x00\x00\x00\x00" +
		"\x00\x00\x00\x1c" + zeros + "\x01" + zeros + "\x02" + "\x00\x00\x00\x01" + zeros + "\x05" +
		zeros[1:] + "\x01\x02" + zeros + "\x04" + zeros + "\x01" +
		"\x00\x00\x00\x02ab" + "\x00\x00\x00\x01c" + "\xff\xff\xff\xff\xff\xff\xff\xfe" +
		"\x00\x00\x00\x02" + zeros + "\x06" + zeros + "\x07"
	if string(b) != want || err != nil {
		t.Errorf("%x, %v, not %x", b, err, want)
	}

	b, err = say.PutOrder(api.Order{Kind: 1, Txn: api.Txn{Client: 2, Num: 3, Writes: []api.Write{{Key: "k", Value: "v"}}}, Say: api.Say{Kind: 1, Yes: true}})
	want = zeros + "\x01" +
		"\x00\x00\x00\x2a" + zeros + "\x02" + zeros + "\x03" + zeros + "\x00" + zeros + "\x01" + "\x00\x00\x00\x01k" + "\x00\x00\x00\x01v" +
		"\x00\x00\x00\x40" + zeros + "\x01" + zeros + "\x00" + zeros + "\x01" + "\x00\x00\x00\x00" + "\x00\x00\x00\x00" + strings.Repeat(zeros+"\x00", 4) +
		"\x00\x00\x00\x14" + strings.Repeat("\x00", 20) + strings.Repeat(zeros+"\x00", 3) + "\x00\x00\x00\x00"
	if string(b) != want || err != nil {
		t.Errorf("%x, %v, not %x", b, err, want)
	}
}

// P11.1 (K2): a Kind that may not be.
func TestKindsOfOrders(t *testing.T) {
	for _, n := range append(farInts(), 0, -1, lastOrder+1, lastOrder+2, 100) {
		wrong(t, fmt.Sprint("kind ", n), spoiltOrder(func(o *api.Order) { o.Kind = int(n) }), "")
		wrong(t, fmt.Sprint("kind ", n, " alone"), api.Order{Kind: int(n)}, "")
		wrong(t, fmt.Sprint("kind ", n, " of a transaction"), api.Order{Kind: int(n), Txn: exampleTxn()}, "")
	}
}

// wrongTxns are no transactions, nor zero ones.
func wrongTxns() map[string]api.Txn {
	l := map[string]api.Txn{
		"client alone":  {Client: 1},
		"num alone":     {Num: 1},
		"reads alone":   {Reads: []api.Read{{}}},
		"writes alone":  {Writes: []api.Write{{}}},
		"without a num": exampleTxn(),
		"client 16":     exampleTxn(),
		"long key":      exampleTxn(),
		"alike":         exampleTxn(),
	}
	spoil := func(name string, how func(t *api.Txn)) {
		t := l[name]
		how(&t)
		l[name] = t
	}
	spoil("without a num", func(t *api.Txn) { t.Num = 0 })
	spoil("client 16", func(t *api.Txn) { t.Client = 16 })
	spoil("long key", func(t *api.Txn) { t.Reads[0].Key = key(longKey + 1) })
	spoil("alike", func(t *api.Txn) { t.Writes[1].Key = "a" })
	return l
}

// P11.1 (K2): orders to prepare and to begin have a right transaction, all others a zero one.
func TestTransactionsOfOrders(t *testing.T) {
	for kind := 1; kind <= lastOrder; kind++ {
		brings := kind == 1 || kind == 6
		for name, x := range map[string]api.Txn{"example": exampleTxn(), "least": {Num: 1, Reads: []api.Read{{}}}, "great": {Client: 15, Num: lastNum, Writes: []api.Write{{Key: key(longKey), Value: value(longValue)}}}} {
			o, name := api.Order{Kind: kind, Txn: x}, fmt.Sprint(kind, " with ", name)
			if brings {
				right(t, name, o)
			} else {
				wrong(t, name, o, "")
			}
		}
		for _, zero := range []api.Txn{{}, {Reads: []api.Read{}, Writes: []api.Write{}}} {
			o, name := api.Order{Kind: kind, Txn: zero}, fmt.Sprint(kind, " without")
			if brings {
				wrong(t, name, o, "")
			} else {
				right(t, name, o)
			}
		}
		for name, x := range wrongTxns() {
			wrong(t, fmt.Sprint(kind, " with ", name), api.Order{Kind: kind, Txn: x}, "order 0: txn 0"+notTxn)
		}
		nine := exampleTxn()
		nine.Reads = make([]api.Read, 9)
		wrong(t, fmt.Sprint(kind, " with nine reads"), api.Order{Kind: kind, Txn: nine}, "order 0: txn 0: int 16"+tooMany)
	}
}

// P11.1 (K2): what an order says may be said, or is nothing.
func TestSaysOfOrders(t *testing.T) {
	for name, s := range wrongSays() {
		if s == (api.Say{}) {
			continue
		}
		read := fmt.Sprint("order 0: say ", s.Kind, notSay)
		if len(sayBytes(s)) > longText {
			read = "order 0: text 12" + tooMany
		}
		wrong(t, name, spoiltOrder(func(o *api.Order) { o.Say = s }), read)
	}
	right(t, "nothing", spoiltOrder(func(o *api.Order) { o.Say = api.Say{} }))
	// A zero one's own bytes are those of nothing that may be said.
	zero := withTexts(api.Order{Kind: 2}, "", string(sayBytes(api.Say{})), string(certBytes(api.Cert{})))
	refused(t, "a zero one in full", joined(zero...), "order 0: say 0"+notSay)
}

// P11.1 (K2): a certificate that is not read again, as its numbers may not be, or has no bytes, as its signers are too many.
func TestCertsOfOrders(t *testing.T) {
	for _, n := range append(farInts(), -1, -2) {
		why := tooMany
		if n < 0 {
			why = sign
		}
		name := fmt.Sprint(n)
		wrong(t, "group "+name, spoiltOrder(func(o *api.Order) { o.Cert.Group = int(n) }), "order 0: cert 0: int 0"+why)
		wrong(t, "digest "+name, spoiltOrder(func(o *api.Order) { o.Cert.Digest = int(n) }), "order 0: cert 0: int 8"+why)
		for at := range 3 {
			wrong(t, fmt.Sprint("signer ", at, name), spoiltOrder(func(o *api.Order) { o.Cert.Signers[at] = int(n) }), fmt.Sprint("order 0: cert 0: signer ", at, why))
		}
	}
	for _, n := range []int{row + 1, row + 2, 5000} {
		wrong(t, fmt.Sprint(n, " signers"), spoiltOrder(func(o *api.Order) { o.Cert.Signers = numbers(n) }), "order 0: cert 0: nums 16"+tooMany)
	}
	refused(t, "9000 signers", orderBytes(spoiltOrder(func(o *api.Order) { o.Cert.Signers = numbers(9000) })), "order 0: text 82"+tooMany)
}

// P11.1 (K2): a proof's numbers, and how many it has of each.
func TestProofsOfOrders(t *testing.T) {
	at := len(joined(withTexts(api.Order{}, "", string(sayBytes(exampleSay())), string(certBytes(exampleOrder().Cert)))[:4]...))
	for _, n := range append(farInts(), -1, row+1, row+2, 2*row) {
		why := tooMany
		if n < 0 {
			why = sign
		}
		name := fmt.Sprint(n)
		wrong(t, "many "+name, spoiltOrder(func(o *api.Order) { o.Proof.Many = int(n) }), fmt.Sprint("order 0: int ", at, why))
		wrong(t, "first "+name, spoiltOrder(func(o *api.Order) { o.Proof.First = int(n) }), fmt.Sprint("order 0: int ", at+8, why))
	}
	for _, n := range append(farInts(), -1, -2) {
		for where := range 3 {
			wrong(t, fmt.Sprint("beside ", where, " ", n), spoiltOrder(func(o *api.Order) {
				o.Proof.Beside = []int{0, 1, 2}
				o.Proof.Beside[where] = int(n)
			}), "")
		}
		wrong(t, fmt.Sprint("the last beside ", n), spoiltOrder(func(o *api.Order) {
			o.Proof.Beside = numbers(row)
			o.Proof.Beside[row-1] = int(n)
		}), "")
	}
	for _, n := range []int{row + 1, row + 2, 5000} {
		wrong(t, fmt.Sprint(n, " entries"), spoiltOrder(func(o *api.Order) { o.Proof.L = entries(n) }), fmt.Sprint("order 0: int ", at+16, tooMany))
		behind := at + 24 + len("\x00\x00\x00\x01k\x00\x00\x00\x01v\x00\x00\x00\x01l\x00\x00\x00\x00") + 16
		wrong(t, fmt.Sprint(n, " beside"), spoiltOrder(func(o *api.Order) { o.Proof.Beside = numbers(n) }), fmt.Sprint("order 0: nums ", behind, tooMany))
	}
	for _, long := range []string{key(longKey + 1), strings.Repeat("é", longKey/2+1), strings.Repeat("\x00", 2*longKey), key(longText)} {
		for where := range 3 {
			wrong(t, fmt.Sprintf("key %d of %d bytes", where, len(long)), spoiltOrder(func(o *api.Order) {
				o.Proof.L = entries(3)
				o.Proof.L[where].Key = long
			}), "")
		}
	}
	for _, long := range []string{value(longValue + 1), strings.Repeat("é", longValue/2+1), strings.Repeat("\x00", 2*longValue), value(longText)} {
		for where := range 3 {
			wrong(t, fmt.Sprintf("value %d of %d bytes", where, len(long)), spoiltOrder(func(o *api.Order) {
				o.Proof.L = entries(3)
				o.Proof.L[where].Value = long
			}), "")
		}
	}
	wrong(t, "the last key", spoiltOrder(func(o *api.Order) {
		o.Proof.L = entries(row)
		o.Proof.L[row-1].Key = key(longKey + 1)
	}), "")
	wrong(t, "all of it", api.Order{Kind: -7, Proof: api.Proof{L: []api.Entry{{Key: key(99)}}, Beside: []int{-1}}}, "")
}

// P11.1 (K2): bytes that are cut end in the part that is cut, wherever that is; with a byte more one is left.
func TestOrdersThatAreCut(t *testing.T) {
	some := map[string]api.Order{"no order": {Kind: -3, Say: api.Say{Kind: 99}, Cert: api.Cert{Group: -1}, Proof: api.Proof{Beside: []int{-1}}}}
	for _, name := range []string{"example", "bare", "begin", "kind 3", "keys fall", "signers 8", "entries 8", "beside 8"} {
		some[name] = rightOrders()[name]
	}
	for name, o := range some {
		whole, began := orderBytes(o), 0
		for _, p := range orderParts(o) {
			for more := range p.bytes {
				refused(t, name, whole[:began+more], fmt.Sprintf("order 0: %s %d%s", p.where, began, end))
			}
			began += len(p.bytes)
		}
		for _, more := range []string{"\x00", "\xff", "ab", key(longText), string(whole)} {
			refused(t, name, append(slices.Clone(whole), more...), fmt.Sprintf("order 0: end %d%s", len(whole), left))
		}
	}
	refused(t, "nothing", nil, "order 0: num 0"+end)
	refused(t, "nothing", []byte{}, "order 0: num 0"+end)
}

// P11.1 (K2): of the three texts the first one that is refused tells its error, as its own layer does; what the Reader says to the end is told ahead of all of them, and that the order is not right behind them.
func TestTextsOfOrders(t *testing.T) {
	ofTxn, ofSay, ofCert := string(txnBytes(exampleTxn())), string(sayBytes(exampleSay())), string(certBytes(exampleOrder().Cert))
	type refusal struct{ text, why string }
	txns := []refusal{{ofTxn, ""}, {"", ""}, {"x", "txn 0: num 0" + end}, {ofTxn + "x", fmt.Sprint("txn 0: end ", len(ofTxn), left)}, {ofTxn[:len(ofTxn)-1], fmt.Sprint("txn 0: text ", len(ofTxn)-5, end)},
		{string(txnBytes(api.Txn{})), "txn 0" + notTxn}, {string(txnBytes(api.Txn{Num: 1})), "txn 0" + notTxn}, {ofTxn[:16], "txn 0: int 16" + end}}
	says := []refusal{{ofSay, ""}, {"", ""}, {"x", "say 0: num 0" + end}, {ofSay + "x", fmt.Sprint("say 0: end ", len(ofSay), left)}, {ofSay[:len(ofSay)-1], fmt.Sprint("say 0: num ", len(ofSay)-8, end)},
		{string(sayBytes(api.Say{})), "say 0" + notSay}, {string(sayBytes(api.Say{Kind: 12})), "say 12" + notSay}, {ofSay[:23] + "\x02" + ofSay[24:], "say 0: int 16" + tooMany}}
	certs := []refusal{{ofCert, ""}, {"", "cert 0: int 0" + end}, {"x", "cert 0: int 0" + end}, {ofCert + "x", fmt.Sprint("cert 0: end ", len(ofCert), left)}, {ofCert[:20], "cert 0: nums 16" + end},
		{string(certBytes(api.Cert{Digest: -1})), "cert 0: int 8" + sign}, {string(certBytes(api.Cert{Signers: []int{3, lastDigest + 1}})), "cert 0: signer 1" + tooMany}}

	for _, kind := range []int{1, 6, 2, 0, -1, 99} {
		for i, x := range txns {
			for j, y := range says {
				for k, z := range certs {
					o := api.Order{Kind: kind, Proof: exampleOrder().Proof}
					b := joined(withTexts(o, x.text, y.text, z.text)...)
					name := fmt.Sprint("kind ", kind, ", texts ", i, j, k)
					rightOne := i == 0 && (kind == 1 || kind == 6) || i == 1 && kind == 2
					switch why := x.why + y.why + z.why; {
					case x.why != "":
						refused(t, name, b, "order 0: "+x.why)
					case y.why != "":
						refused(t, name, b, "order 0: "+y.why)
					case why != "":
						refused(t, name, b, "order 0: "+z.why)
					case !rightOne:
						refused(t, name, b, fmt.Sprint("order ", kind, notOrder))
					}
					refused(t, name, append(slices.Clone(b), 0), fmt.Sprint("order 0: end ", len(b), left))
					refused(t, name, b[:len(b)-1], fmt.Sprint("order 0: nums ", len(b)-20, end))
				}
			}
		}
	}
}

// P11.1 (K2): the counts of bytes, and Many and First, are told as soon as they are met, whatever stands ahead of them in a text, or behind, or nothing.
func TestCountsOfOrders(t *testing.T) {
	head := []part{num(-4), text("x"), text("y"), text("")}
	began := len(joined(head...))
	for n, why := range map[int64]string{row + 1: tooMany, 2 * row: tooMany, 1 << 16: tooMany, 1 << 32: tooMany, 1<<32 + 1: tooMany, math.MaxInt64: tooMany, -1: sign, -row: sign, -1<<32 + 1: sign, math.MinInt64: sign} {
		for _, behind := range [][]part{nil, {count(0), count(0), nums(nil)}, {count(-1)}, {text(key(longText + 1))}, {num(1)}} {
			ahead := slices.Clone(head)
			for at := range 3 {
				b := joined(slices.Concat(ahead, []part{count(n)}, behind)...)
				refused(t, fmt.Sprint("number ", at, " is ", n), b, fmt.Sprint("order 0: int ", began+8*at, why))
				ahead = append(ahead, count(row))
			}
		}
	}
	bare := []part{num(2), text(""), text(""), text(string(certBytes(api.Cert{}))), count(0), count(0)}
	at := len(joined(bare...)) + 8
	for _, n := range []uint32{row + 1, 1 << 16, 1<<32 - 1} {
		l := slices.Concat(bare, []part{count(0), {"nums", binary.BigEndian.AppendUint32(nil, n)}})
		refused(t, fmt.Sprint(n, " beside"), joined(l...), fmt.Sprint("order 0: nums ", at, tooMany))
	}
	l := slices.Concat(bare, []part{count(2), text("a"), text("b"), num(1), nums(nil)})
	refused(t, "2, and one there", joined(l...), fmt.Sprint("order 0: text ", at+18+4, end))
	refused(t, "1, and one more there", joined(slices.Concat(bare, []part{count(1), text(""), text(""), num(1), text(""), text(""), num(1), nums(nil)})...), fmt.Sprint("order 0: end ", at+20, left))
	refused(t, "a key beyond all texts", joined(slices.Concat(bare, []part{count(1), text(key(longText + 1)), text(""), num(1), nums(nil)})...), fmt.Sprint("order 0: text ", at, tooMany))
	refused(t, "a value beyond all texts", joined(slices.Concat(bare, []part{count(1), text("a"), text(key(longText + 1)), num(1), nums(nil)})...), fmt.Sprint("order 0: text ", at+5, tooMany))
	for where, long := range [][3]string{{key(longText + 1), "x", "x"}, {"x", key(longText + 1), "x"}, {"x", "x", key(longText + 1)}} {
		refused(t, fmt.Sprint("text ", where, " beyond all"), joined(withTexts(api.Order{}, long[0], long[1], long[2])...), fmt.Sprint("order 0: text ", 8+5*where, tooMany))
	}
}

// P11.1 (Errors): an error is a number, which errors.Is finds, in the steps that the chapter names.
func TestErrorsAreNumbersInSteps(t *testing.T) {
	full := book.New()
	for i := range bookful {
		_, _ = full.Digest(binary.BigEndian.AppendUint32(nil, uint32(i)))
	}
	first := func(_ any, err error) error { return err }
	step := func(where string, at int) api.Step { return api.Step{Where: where, At: at} }
	for _, x := range []struct {
		err  error
		code api.Errno
		want []api.Step
	}{
		{say.Check(api.Say{Kind: -5}), api.ErrSay, []api.Step{step("say", -5)}},
		{first(say.Put(api.Say{Kind: 10})), api.ErrSay, []api.Step{step("say", 10)}},
		{first(say.Get(sayBytes(api.Say{Kind: 11}))), api.ErrSay, []api.Step{step("say", 11)}},
		{first(say.Get(sayBytes(exampleSay())[:30])), api.ErrEnd, []api.Step{step("say", 0), step("text", 29)}},
		{first(say.Digest(full, api.Say{Kind: 12})), api.ErrSay, []api.Step{step("say", 12)}},
		{first(say.Digest(full, exampleSay())), api.ErrTooMany, []api.Step{step("say", 4), step("book", bookful)}},
		{first(say.PutOrder(api.Order{Kind: 12})), api.ErrOrder, []api.Step{step("order", 12)}},
		{first(say.GetOrder(orderBytes(api.Order{Kind: 13}))), api.ErrOrder, []api.Step{step("order", 13)}},
		{first(say.GetOrder(orderBytes(exampleOrder())[:3])), api.ErrEnd, []api.Step{step("order", 0), step("num", 0)}},
		{first(say.GetOrder(joined(withTexts(api.Order{Kind: 14}, "x", "x", "x")...))), api.ErrEnd, []api.Step{step("order", 0), step("txn", 0), step("num", 0)}},
		{first(say.GetOrder(joined(withTexts(api.Order{Kind: 14}, "", string(sayBytes(api.Say{Kind: 15})), "")...))), api.ErrSay, []api.Step{step("order", 0), step("say", 15)}},
		{first(say.GetOrder(joined(withTexts(api.Order{Kind: 14}, "", "", "x")...))), api.ErrEnd, []api.Step{step("order", 0), step("cert", 0), step("int", 0)}},
	} {
		if fault.Code(x.err) != x.code || !errors.Is(x.err, x.code) || !slices.Equal(fault.Trail(x.err), x.want) {
			t.Errorf("%q is not %d at %v", fault.Text(x.err), x.code, x.want)
		}
	}
}

// dice are numbers that follow from where they begin.
type dice uint32

func (d *dice) roll(below int) int {
	*d = *d*1664525 + 1013904223
	return int(*d>>8) % below
}

func (d *dice) key() string { return key(d.roll(longKey + 1)) }

func (d *dice) digest() int { return []int{0, 1, d.roll(1 << 20), lastDigest}[d.roll(4)] }

func (d *dice) digests() []int {
	var l []int
	for range d.roll(5) {
		l = append(l, d.digest())
	}
	return l
}

// say is something that may be said.
func (d *dice) say() api.Say {
	return api.Say{Kind: 1 + d.roll(lastSay), Txn: d.digest(), Yes: d.roll(2) == 1, From: d.key(), To: d.key(), Epoch: int64(d.digest()) << d.roll(10), Shard: d.roll(4), Target: d.roll(4), Root: d.digest()}
}

// order is one that is right.
func (d *dice) order() api.Order {
	o := api.Order{Kind: 1 + d.roll(lastOrder), Cert: api.Cert{Group: d.digest(), Digest: d.digest(), Signers: d.digests()}, Proof: api.Proof{Many: d.roll(row + 1), First: d.roll(row + 1), Beside: d.digests()}}
	if o.Kind == api.DoPrepare || o.Kind == api.DoBegin {
		o.Txn = exampleTxn()
		o.Txn.Num = int64(1 + d.roll(1<<20))
	}
	if d.roll(3) > 0 {
		o.Say = d.say()
	}
	for range d.roll(4) {
		o.Proof.L = append(o.Proof.L, api.Entry{Key: d.key(), Value: value(d.roll(longValue + 1)), Version: int64(d.digest()) - 3})
	}
	return o
}

// spoil changes some bytes.
func (d *dice) spoil(b []byte) {
	for range d.roll(3) {
		b[d.roll(len(b))] = []byte{0, 0, 1, 2, 4, 9, 10, 'a', 0xff}[d.roll(9)]
	}
}

// P11.2: what may be said, and what is ordered, comes back from its bytes, and no two unlike ones have the same.
func TestThereAndBack(t *testing.T) {
	d, says, orders := dice(1), map[string]api.Say{}, map[string]api.Order{}
	for range 3000 {
		s := d.say()
		b, err := say.Put(s)
		told(t, "Put", err, "")
		if other, is := says[string(b)]; is && other != s {
			t.Errorf("%v and %v have the same bytes", s, other)
		}
		says[string(b)] = s
		gotSay(t, "some", b, s, "")

		o := d.order()
		right(t, "some", o)
		b, _ = say.PutOrder(o)
		if other, is := orders[string(b)]; is && !same(other, o) {
			t.Errorf("%v and %v have the same bytes", o, other)
		}
		orders[string(b)] = o
	}
	if len(says) < 2000 || len(orders) < 2000 {
		t.Error("too few were unlike:", len(says), len(orders))
	}
}

// P11.2: bytes that are read have just those bytes again; whatever bytes come, they are something that may be, or refused.
func TestBackAndThere(t *testing.T) {
	d, met := dice(2), map[api.Errno]int{}
	for range 30000 {
		b := sayBytes(d.say())
		d.spoil(b)
		s, err := say.Get(b)
		met[fault.Code(err)]++
		again, notAgain := say.Put(s)
		if err != nil && s != (api.Say{}) || err == nil && (notAgain != nil || !bytes.Equal(again, b) || !bytes.Equal(sayBytes(s), b) || say.Check(s) != nil) {
			t.Fatalf("%x is %v, %v, and that %x, %v", b, s, err, again, notAgain)
		}
	}
	many := func(what string, codes ...api.Errno) {
		for _, e := range codes {
			if met[e] < 20 {
				t.Errorf("%s: too little is told by %v", what, met)
			}
		}
		if len(met) != len(codes) {
			t.Errorf("%s: %v", what, slices.Collect(maps.Keys(met)))
		}
		clear(met)
	}
	many("says", api.OK, api.ErrTooMany, api.ErrEnd, api.ErrLeft, api.ErrSign, api.ErrSay)
	for range 60000 {
		b := orderBytes(d.order())
		d.spoil(b)
		o, err := say.GetOrder(b)
		met[fault.Code(err)]++
		again, notAgain := say.PutOrder(o)
		if err != nil && !same(o, api.Order{}) || err == nil && (notAgain != nil || !bytes.Equal(again, b) || !bytes.Equal(orderBytes(o), b)) {
			t.Fatalf("%x is %v, %v, and that %x, %v", b, o, err, again, notAgain)
		}
	}
	many("orders", api.OK, api.ErrTooMany, api.ErrEnd, api.ErrLeft, api.ErrSign, api.ErrTxn, api.ErrSay, api.ErrOrder)
}

// spare is a list with spare room behind it, which has something.
func spare[T any](l []T, behind T) []T { return append(slices.Clone(l), behind, behind)[:len(l)] }

// P3: lists that are handed in are not changed, nor their spare room.
func TestWhatIsHandedIn(t *testing.T) {
	o, had := exampleOrder(), exampleOrder()
	o.Txn.Reads, o.Txn.Writes = spare(o.Txn.Reads, api.Read{Key: "spare"}), spare(o.Txn.Writes, api.Write{Key: "spare"})
	o.Cert.Signers = spare(o.Cert.Signers, 77)
	o.Proof.L, o.Proof.Beside = spare(o.Proof.L, api.Entry{Key: "spare"}), spare(o.Proof.Beside, 77)
	if _, err := say.PutOrder(o); err != nil {
		t.Fatal(fault.Text(err))
	}
	o.Kind = 0
	_, _ = say.PutOrder(o)
	o.Kind = had.Kind
	if !same(o, had) {
		t.Errorf("the order that was handed in is %v", o)
	}
	behind := func(l []int) []int { return l[len(l) : len(l)+2] }
	if !slices.Equal(behind(o.Cert.Signers), []int{77, 77}) || !slices.Equal(behind(o.Proof.Beside), []int{77, 77}) || o.Proof.L[:3][2].Key != "spare" || o.Txn.Reads[:2][1].Key != "spare" || o.Txn.Writes[:3][2].Key != "spare" {
		t.Error("spare room that was handed in is changed")
	}
	for _, b := range [][]byte{orderBytes(had), sayBytes(exampleSay())} {
		with := spare(b, 0xee)
		_, _ = say.GetOrder(with)
		_, _ = say.Get(with)
		if !bytes.Equal(with[:len(b)+2], append(slices.Clone(b), 0xee, 0xee)) {
			t.Errorf("the bytes that were handed in are %x", with[:len(b)+2])
		}
	}
}

// P3: what was handed in may change then: what was answered stays.
func TestWhatWasHandedInMayChange(t *testing.T) {
	b, had := orderBytes(exampleOrder()), orderBytes(exampleOrder())
	o, err := say.GetOrder(b)
	told(t, "GetOrder", err, "")
	said := sayBytes(exampleSay())
	s, err := say.Get(said)
	told(t, "Get", err, "")
	clear(b)
	clear(said)
	if !same(o, exampleOrder()) || s != exampleSay() {
		t.Errorf("what was answered is %v, %v then", o, s)
	}

	made, err := say.PutOrder(o)
	told(t, "PutOrder", err, "")
	spoilOrder(o)
	if !bytes.Equal(made, had) {
		t.Errorf("what was answered is %x then", made)
	}
}

// spoil changes a list, and its spare room.
func spoil[T any](l []T, to T) {
	for i := range l[:cap(l)] {
		l[:cap(l)][i] = to
	}
}

func spoilOrder(o api.Order) {
	spoil(o.Txn.Reads, api.Read{Key: "changed"})
	spoil(o.Txn.Writes, api.Write{Key: "changed"})
	spoil(o.Cert.Signers, 99)
	spoil(o.Proof.L, api.Entry{Key: "changed"})
	spoil(o.Proof.Beside, 98)
}

// P3: what was answered may change then, its spare room too: what was handed in, and other answers, stay as they are; no two lists of an answer share memory.
func TestWhatWasAnsweredMayChange(t *testing.T) {
	for name, o := range rightOrders() {
		had, b := copied(o), orderBytes(o)
		first, _ := say.GetOrder(b)
		other, _ := say.GetOrder(b)
		spoil(first.Cert.Signers, 99)
		if !slices.Equal(first.Proof.Beside, had.Proof.Beside) {
			t.Errorf("%s: two lists of one answer share memory", name)
		}
		spoilOrder(first)
		made, _ := say.PutOrder(o)
		again, _ := say.PutOrder(o)
		spoil(made, 0xee)
		if !same(other, had) || !same(o, had) || !bytes.Equal(again, orderBytes(had)) || !bytes.Equal(b, orderBytes(had)) {
			t.Errorf("%s: other things change with what was answered", name)
		}
	}
	k := book.New()
	made, _ := say.Put(exampleSay())
	digested(t, "example", k, exampleSay(), "", 0)
	spoil(made, 0xee)
	again, _ := say.Put(exampleSay())
	if !bytes.Equal(again, sayBytes(exampleSay())) {
		t.Errorf("the bytes are %x then", again)
	}
	digested(t, "example", k, exampleSay(), "", 0)
}

// P1: of an order that is not right, however great, every call is answered.
func TestGreatOnes(t *testing.T) {
	const n = 1 << 17
	o := api.Order{Kind: math.MinInt, Txn: api.Txn{Reads: make([]api.Read, n), Writes: make([]api.Write, n)}, Say: api.Say{Kind: math.MaxInt, From: key(n), To: key(n)}, Cert: api.Cert{Signers: make([]int, n)}, Proof: api.Proof{L: make([]api.Entry, n), Beside: make([]int, n)}}
	for _, kind := range []int{math.MinInt, 1, 2} {
		o.Kind = kind
		_, err := say.PutOrder(o)
		told(t, "great", err, fmt.Sprint("order ", kind, notOrder))
	}
	refused(t, "great", orderBytes(o), "order 0: text 8"+tooMany)
	notSaid(t, "great", sayBytes(o.Say), "say 0: text 24"+tooMany)
	refused(t, "zeros", make([]byte, n), "order 0: end 48"+left)
	refused(t, "few zeros", make([]byte, 48), "order 0: cert 0: int 0"+end)
	refused(t, "high bytes", bytes.Repeat([]byte{0xff}, n), "order 0: text 8"+tooMany)
}
