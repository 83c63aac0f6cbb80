package msg_test

import (
	"bytes"
	"crypto/sha256"
	"math"
	"slices"
	"strings"
	"testing"
	"unsafe"

	"rill/api"
	"rill/msg"
)

const last = 1<<31 - 1

func digest(text string) []byte {
	sum := sha256.Sum256([]byte(text))
	return sum[:]
}

func alive() api.Meta {
	return api.Meta{Tag: api.Tag{N: 16909060, Client: 3}, Size: 1000, T: 33, Sum: digest("a value")}
}

func dead() api.Meta { return api.Meta{Tag: api.Tag{N: last, Client: 1}, Dead: true} }

// same: nil lists and empty ones are the same.
func same(a, b api.Msg) bool {
	return a.Kind == b.Kind && a.From == b.From && a.To == b.To && a.Op == b.Op && a.Code == b.Code && a.Key == b.Key && sameMeta(a.Meta, b.Meta) &&
		slices.EqualFunc(a.Syms, b.Syms, func(x, y api.Sym) bool {
			return x.Block == y.Block && x.Esi == y.Esi && bytes.Equal(x.Data, y.Data)
		}) &&
		slices.EqualFunc(a.Items, b.Items, func(x, y api.Item) bool { return x.Key == y.Key && sameMeta(x.Meta, y.Meta) })
}

func sameMeta(a, b api.Meta) bool {
	return a.Tag == b.Tag && a.Size == b.Size && a.T == b.T && a.Dead == b.Dead && bytes.Equal(a.Sum, b.Sum)
}

// messages are right ones, with what may be least and greatest.
func messages() []api.Msg {
	syms := []api.Sym{
		{Block: 1023, Esi: 1<<24 - 1, Data: bytes.Repeat([]byte{255}, 64)},
		{},
		{Block: 258, Esi: 66051, Data: []byte("data")},
	}
	items := []api.Item{{Key: "k", Meta: alive()}, {Key: strings.Repeat("\xff", 32), Meta: dead()}, {Key: "\x00", Meta: dead()}}
	ms := []api.Msg{
		{Kind: api.MsgAsk, From: 8, Op: 1, Key: "k"},
		{Kind: 1},
		{Kind: api.MsgKeys, From: 11, To: 11, Op: last, Code: last, Key: strings.Repeat("k", 32), Meta: alive(), Syms: syms, Items: items},
		{Kind: api.MsgCommit, From: 9, To: 3, Op: 16909060, Code: 84281096, Meta: dead()},
	}
	for kind := api.MsgAsk; kind <= api.MsgKeys; kind++ {
		ms = append(ms, api.Msg{Kind: kind, From: kind, To: 11 - kind, Op: kind * 300, Code: kind * 70000, Key: "key", Syms: syms[kind%3:], Items: items[:kind%4]})
	}
	return ms
}

// weighed is a number with the byte of the least weight first.
func weighed(n, width int) []byte {
	var b []byte
	for i := range width {
		b = append(b, byte(n>>(8*i)))
	}
	return b
}

func text(b []byte) []byte { return append([]byte{byte(len(b))}, b...) }

func metaBytes(m api.Meta) []byte {
	d := byte(0)
	if m.Dead {
		d = 1
	}
	return slices.Concat(weighed(m.Tag.N, 4), weighed(m.Size, 4), []byte{byte(m.Tag.Client), byte(m.T), d}, text(m.Sum))
}

func encoded(m api.Msg) []byte {
	b := slices.Concat([]byte{byte(m.Kind), byte(m.From), byte(m.To)}, weighed(m.Op, 4), weighed(m.Code, 4), text([]byte(m.Key)), metaBytes(m.Meta), weighed(len(m.Syms), 2))
	for _, s := range m.Syms {
		b = append(b, slices.Concat(weighed(s.Block, 2), weighed(s.Esi, 3), text(s.Data))...)
	}
	b = append(b, byte(len(m.Items)))
	for _, i := range m.Items {
		b = append(b, slices.Concat(text([]byte(i.Key)), metaBytes(i.Meta))...)
	}
	return b
}

// accepted: all three know the message.
func accepted(t *testing.T, m api.Msg) {
	t.Helper()
	if !msg.Check(m) {
		t.Errorf("Check(%v)", m)
	}
	if b, err := msg.Encode(m); err != api.OK || !bytes.Equal(b, encoded(m)) {
		t.Errorf("Encode(%v) = %v, %v", m, b, err)
	}
	if got, err := msg.Decode(encoded(m)); err != api.OK || !same(got, m) {
		t.Errorf("Decode of %v = %v, %v", m, got, err)
	}
}

// refused: none knows it. (Its bytes may be those of another one.)
func refused(t *testing.T, m api.Msg) {
	t.Helper()
	if msg.Check(m) {
		t.Errorf("Check(%v)", m)
	}
	if b, err := msg.Encode(m); err != api.ErrMsg || len(b) != 0 {
		t.Errorf("Encode(%v) = %v, %v", m, b, err)
	}
	if got, err := msg.Decode(encoded(m)); err == api.OK && same(got, m) || err != api.OK && (err != api.ErrMsg || !same(got, api.Msg{})) {
		t.Errorf("Decode of %v = %v, %v", m, got, err)
	}
}

func TestRightMessages(t *testing.T) {
	for _, m := range messages() {
		accepted(t, m)
	}
	b, err := msg.Encode(messages()[0])
	if len(b) != 28 || err != api.OK || !bytes.Equal(b[:5], []byte{1, 8, 0, 1, 0}) {
		t.Error("the chapter's example", b, err)
	}
	if m, err := msg.Decode(nil); err != api.ErrMsg || !same(m, api.Msg{}) {
		t.Error("Decode of nothing", m, err)
	}
}

func TestTheNumbersOfAMessage(t *testing.T) {
	number := func(name string, least, greatest int, set func(*api.Msg, int)) {
		for _, m := range messages()[:4] {
			for _, n := range []int{least, least + 1, greatest - 1, greatest} {
				right := m
				set(&right, n)
				accepted(t, right)
			}
			for _, n := range []int{least - 1, greatest + 1, math.MinInt64, math.MaxInt64, -1, 1<<32 + least, 256 + least} {
				if n >= least && n <= greatest {
					continue
				}
				wrong := m
				set(&wrong, n)
				refused(t, wrong)
			}
		}
		if t.Failed() {
			t.Fatal(name)
		}
	}
	number("Kind", 1, 10, func(m *api.Msg, n int) { m.Kind = n })
	number("From", 0, 11, func(m *api.Msg, n int) { m.From = n })
	number("To", 0, 11, func(m *api.Msg, n int) { m.To = n })
	number("Op", 0, last, func(m *api.Msg, n int) { m.Op = n })
	number("Code", 0, last, func(m *api.Msg, n int) { m.Code = n })
	number("Block", 0, 1023, func(m *api.Msg, n int) { m.Syms = []api.Sym{{}, {Block: n}} })
	number("Esi", 0, 1<<24-1, func(m *api.Msg, n int) { m.Syms = []api.Sym{{Esi: n, Data: []byte("a")}, {}} })
	number("N", 1, last, func(m *api.Msg, n int) { m.Meta = alive(); m.Meta.Tag.N = n })
	number("Client", 0, 3, func(m *api.Msg, n int) { m.Meta = dead(); m.Meta.Tag.Client = n })
	number("Size", 1, 1024, func(m *api.Msg, n int) { m.Meta = alive(); m.Meta.Size = n })
	number("T", 1, 64, func(m *api.Msg, n int) { m.Meta = alive(); m.Meta.T = n })
	number("N of an item", 1, last, func(m *api.Msg, n int) {
		m.Items = []api.Item{{Key: "a", Meta: dead()}, {Key: "b", Meta: dead()}}
		m.Items[1].Meta.Tag.N = n
	})
}

func TestTheLengthsOfAMessage(t *testing.T) {
	for _, m := range messages()[:4] {
		for n := 0; n < 70; n++ {
			key, sym, item, sum := m, m, m, m
			key.Key = strings.Repeat("k", n)
			sym.Syms = []api.Sym{{}, {Data: make([]byte, n)}}
			item.Items = []api.Item{{Key: strings.Repeat("k", n), Meta: dead()}, {Key: "k", Meta: alive()}}
			sum.Meta = alive()
			sum.Meta.Sum = make([]byte, n)
			for i, c := range []struct {
				m     api.Msg
				right bool
			}{{key, n <= 32}, {sym, n <= 64}, {item, n >= 1 && n <= 32}, {sum, n == 32}} {
				if c.right {
					accepted(t, c.m)
				} else {
					refused(t, c.m)
				}
				if t.Failed() {
					t.Fatal("case", i, "length", n)
				}
			}
		}
	}
}

func TestHowManyPartsAMessageHas(t *testing.T) {
	m := messages()[2]
	for _, n := range []int{0, 1, 99, 100, 101, 255, 256, 257, 511, 512, 513, 65536 + 3} {
		syms, items := m, m
		syms.Syms = slices.Repeat(m.Syms[:1], n)
		items.Items = slices.Repeat(m.Items[1:2], n)
		if n <= 512 {
			accepted(t, syms)
		} else {
			refused(t, syms)
		}
		if n <= 100 {
			accepted(t, items)
		} else {
			refused(t, items)
		}
		if t.Failed() {
			t.Fatal(n, "parts")
		}
	}
	m.Syms, m.Items = slices.Repeat(m.Syms[:1], 512), slices.Repeat(m.Items[1:2], 100)
	accepted(t, m)
}

func TestTheMetaOfAMessage(t *testing.T) {
	for i, meta := range []api.Meta{
		{}, {Sum: []byte{}}, alive(), dead(),
		{Tag: api.Tag{N: 1}}, {Tag: api.Tag{Client: 1}}, {Size: 1}, {T: 1}, {Dead: true}, {Sum: make([]byte, 32)}, {Sum: []byte{0}},
		{Tag: api.Tag{N: 1}, Dead: true, Size: 1}, {Tag: api.Tag{N: 1}, Dead: true, T: 1}, {Tag: api.Tag{N: 1}, Dead: true, Sum: digest("x")},
		{Tag: api.Tag{N: 1}, Size: 1, T: 1}, {Tag: api.Tag{N: -1}, Dead: true}, {Tag: api.Tag{N: 1, Client: 4}, Dead: true},
	} {
		for _, m := range messages()[:4] {
			m.Meta = meta
			if i < 4 {
				accepted(t, m)
			} else {
				refused(t, m)
			}
			// An item has a right one, not one of which all is 0.
			m.Meta, m.Items = dead(), []api.Item{{Key: "k", Meta: alive()}, {Key: "k", Meta: meta}}
			if i == 2 || i == 3 {
				accepted(t, m)
			} else {
				refused(t, m)
			}
		}
	}
}

func TestDecodeOfOtherBytes(t *testing.T) {
	for _, m := range messages() {
		whole := encoded(m)
		for n := range whole {
			if got, err := msg.Decode(whole[:n]); err != api.ErrMsg || !same(got, api.Msg{}) {
				t.Errorf("Decode of %d of %d bytes = %v, %v", n, len(whole), got, err)
			}
		}
		for _, behind := range [][]byte{{0}, {1, 2}, make([]byte, 70000)} {
			if got, err := msg.Decode(slices.Concat(whole, behind)); err != api.ErrMsg || !same(got, api.Msg{}) {
				t.Errorf("Decode with %d bytes behind = %v, %v", len(behind), got, err)
			}
		}
		for bit := range 8 * len(whole) {
			b := bytes.Clone(whole)
			b[bit/8] ^= 1 << (bit % 8)
			got, err := msg.Decode(b)
			if err == api.OK && (!msg.Check(got) || !bytes.Equal(encoded(got), b)) || err != api.OK && (err != api.ErrMsg || !same(got, api.Msg{})) {
				t.Errorf("Decode of %v = %v, %v", b, got, err)
			}
		}
	}
	// A byte for Dead is 0 or 1.
	b := encoded(api.Msg{Kind: 1, Meta: dead()})
	for d := range 256 {
		b[22] = byte(d)
		if _, err := msg.Decode(b); (err == api.OK) != (d == 1) {
			t.Errorf("Decode with %d for Dead: %v", d, err)
		}
	}
	for _, b := range [][]byte{{}, {1}, make([]byte, 27), bytes.Repeat([]byte{255}, 70000), bytes.Repeat([]byte{1}, 500)} {
		if got, err := msg.Decode(b); err != api.ErrMsg || !same(got, api.Msg{}) {
			t.Errorf("Decode of %d bytes = %v, %v", len(b), got, err)
		}
	}
}

func TestReply(t *testing.T) {
	for _, m := range append(messages(), api.Msg{From: -5, To: math.MaxInt64, Op: math.MinInt64, Key: strings.Repeat("k", 90), Code: 3}) {
		for _, kind := range []int{-1, 0, 2, 10, 11, math.MaxInt64} {
			want := api.Msg{Kind: kind, From: m.To, To: m.From, Op: m.Op, Key: m.Key}
			if got := msg.Reply(m, kind); !same(got, want) {
				t.Errorf("Reply(%v, %d) = %v", m, kind, got)
			}
		}
	}
}

func TestNames(t *testing.T) {
	words := strings.Fields("ask told stage staged commit done fetch syms list keys")
	for kind := -3; kind < 15; kind++ {
		want := ""
		if kind >= 1 && kind <= 10 {
			want = words[kind-1]
		}
		if got := msg.Names(kind); got != want {
			t.Errorf("Names(%d) = %q", kind, got)
		}
	}
	if msg.Names(math.MinInt64) != "" || msg.Names(math.MaxInt64) != "" || msg.Names(257) != "" {
		t.Error("Names of the outermost numbers")
	}
}

// apart: does no list share memory with another, spare room included?
func apart(lists ...[]byte) bool {
	for i, a := range lists {
		for _, b := range lists[:i] {
			x, y := uintptr(unsafe.Pointer(unsafe.SliceData(a))), uintptr(unsafe.Pointer(unsafe.SliceData(b)))
			if x < y+uintptr(cap(b)) && y < x+uintptr(cap(a)) {
				return false
			}
		}
	}
	return true
}

func TestListsAreLeftAndAnswersAreNew(t *testing.T) {
	m := messages()[2]
	msg.Check(m)
	b, _ := msg.Encode(m)
	got, _ := msg.Decode(b)
	reply := msg.Reply(m, 3)
	if !same(m, messages()[2]) || !bytes.Equal(b, encoded(m)) || len(reply.Syms)+len(reply.Items)+len(reply.Meta.Sum) != 0 {
		t.Error("what was handed in has changed", m, b)
	}
	lists := [][]byte{b}
	for _, m := range []api.Msg{m, got} {
		lists = append(lists, m.Meta.Sum, m.Items[0].Meta.Sum)
		for _, s := range m.Syms {
			lists = append(lists, s.Data)
		}
	}
	if !apart(lists...) {
		t.Error("an answer shares memory")
	}
}
