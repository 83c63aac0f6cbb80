package meta_test

import (
	"bytes"
	"crypto/sha256"
	"math"
	"strings"
	"testing"
	"unsafe"

	"rill/api"
	"rill/meta"
)

const last = 1<<31 - 1

func digest(text string) []byte {
	sum := sha256.Sum256([]byte(text))
	return sum[:]
}

// same: nil lists and empty ones are the same.
func same(a, b api.Meta) bool {
	return a.Tag == b.Tag && a.Size == b.Size && a.T == b.T && a.Dead == b.Dead && bytes.Equal(a.Sum, b.Sum)
}

func sameRecord(a, b api.Record) bool {
	if a.Kind != b.Kind || a.Key != b.Key || !same(a.Meta, b.Meta) || len(a.Places) != len(b.Places) {
		return false
	}
	for i, p := range a.Places {
		q := b.Places[i]
		if p.Block != q.Block || p.Esi != q.Esi || p.Slot != q.Slot || !bytes.Equal(p.Sum, q.Sum) {
			return false
		}
	}
	return true
}

var outermost = []int{math.MinInt64, math.MinInt64 + 1, -2, -1, 0, 1, 2, 3, 4, last - 1, last, last + 1, 1 << 32, math.MaxInt64 - 1, math.MaxInt64}

func TestEarlierAndLater(t *testing.T) {
	var tags []api.Tag // rising
	for _, n := range outermost {
		for _, client := range outermost {
			tags = append(tags, api.Tag{N: n, Client: client})
		}
	}
	for i, a := range tags {
		for j, b := range tags {
			if got := meta.Earlier(a, b); got != (i < j) {
				t.Fatalf("Earlier(%v, %v) = %v", a, b, got)
			}
			c := tags[(i*7+j*3)%len(tags)]
			if got, want := meta.Later(a, b, c), tags[max(i, j, (i*7+j*3)%len(tags))]; got != want {
				t.Fatalf("Later(%v, %v, %v) = %v", a, b, c, got)
			}
		}
		if got := meta.Later(a); got != a {
			t.Errorf("Later(%v) = %v", a, got)
		}
	}
	if !meta.Earlier(api.Tag{N: 1, Client: 3}, api.Tag{N: 2}) || meta.Later() != (api.Tag{}) {
		t.Error("the chapter's examples")
	}
}

func TestNext(t *testing.T) {
	for _, c := range []struct{ n, want int }{
		{7, 8}, {0, 1}, {1, 2}, {-1, 1}, {-2, 1}, {math.MinInt64, 1}, {last - 2, last - 1}, {last - 1, last}, {last, last + 1}, {last + 1, last + 1}, {1 << 40, last + 1}, {math.MaxInt64, last + 1},
	} {
		for _, client := range outermost {
			if got := meta.Next(api.Tag{N: c.n, Client: 2}, client); got != (api.Tag{N: c.want, Client: client}) {
				t.Errorf("Next of %d for %d = %v", c.n, client, got)
			}
		}
	}
}

func TestOf(t *testing.T) {
	for _, c := range []struct {
		tag   api.Tag
		t     int
		value string
		want  api.Errno
	}{
		{api.Tag{N: 1}, 1, "a", api.OK},
		{api.Tag{N: last, Client: 3}, 64, strings.Repeat("v", 1024), api.OK},
		{api.Tag{N: 5, Client: 1}, 4, "hello", api.OK},
		{api.Tag{}, 4, "hello", api.ErrMeta},
		{api.Tag{N: 0, Client: 1}, 4, "hello", api.ErrMeta},
		{api.Tag{N: -1}, 4, "hello", api.ErrMeta},
		{api.Tag{N: last + 1}, 4, "hello", api.ErrMeta},
		{api.Tag{N: 1, Client: 4}, 4, "hello", api.ErrMeta},
		{api.Tag{N: 1, Client: -1}, 4, "hello", api.ErrMeta},
		{api.Tag{N: 1}, 0, "hello", api.ErrMeta},
		{api.Tag{N: 1}, -1, "hello", api.ErrMeta},
		{api.Tag{N: 1}, 65, "hello", api.ErrMeta},
		{api.Tag{N: 1}, math.MaxInt64, "hello", api.ErrMeta},
		{api.Tag{N: 1}, 4, "", api.ErrMeta},
		{api.Tag{N: 1}, 4, strings.Repeat("v", 1025), api.ErrMeta},
	} {
		want := api.Meta{Tag: c.tag, Size: len(c.value), T: c.t, Sum: digest(c.value)}
		if c.want != api.OK {
			want = api.Meta{}
		}
		if got, err := meta.Of(c.tag, c.t, []byte(c.value)); err != c.want || !same(got, want) {
			t.Errorf("Of(%v, %d, %d bytes) = %v, %v", c.tag, c.t, len(c.value), got, err)
		}
	}
}

func TestEnd(t *testing.T) {
	for _, n := range outermost {
		for _, client := range outermost {
			tag := api.Tag{N: n, Client: client}
			want, code := api.Meta{Tag: tag, Dead: true}, api.OK
			if n < 1 || n > last || client < 0 || client > 3 {
				want, code = api.Meta{}, api.ErrMeta
			}
			if got, err := meta.End(tag); err != code || !same(got, want) {
				t.Errorf("End(%v) = %v, %v", tag, got, err)
			}
		}
	}
}

// alive and dead are right metas.
func alive() api.Meta {
	return api.Meta{Tag: api.Tag{N: 258, Client: 3}, Size: 1000, T: 33, Sum: digest("a value")}
}

func dead() api.Meta { return api.Meta{Tag: api.Tag{N: 1 << 24, Client: 1}, Dead: true} }

// bends are changes that make a right meta another one: right, or not (for the first list).
func bends() (wrong, right []func(*api.Meta)) {
	wrong = []func(*api.Meta){
		func(m *api.Meta) { m.Tag.N = 0 },
		func(m *api.Meta) { m.Tag.N = -1 },
		func(m *api.Meta) { m.Tag.N = last + 1 },
		func(m *api.Meta) { m.Tag.N = math.MinInt64 },
		func(m *api.Meta) { m.Tag.N = 1<<32 + 1 },
		func(m *api.Meta) { m.Tag.Client = -1 },
		func(m *api.Meta) { m.Tag.Client = 4 },
		func(m *api.Meta) { m.Tag.Client = 256 },
		func(m *api.Meta) { m.Tag = api.Tag{} },
		func(m *api.Meta) { m.Size = -1 },
		func(m *api.Meta) { m.Size = 1025 },
		func(m *api.Meta) { m.Size = 1 << 32 },
		func(m *api.Meta) { m.T = -1 },
		func(m *api.Meta) { m.T = 65 },
		func(m *api.Meta) { m.T = 256 },
		func(m *api.Meta) { m.Sum = make([]byte, 31) },
		func(m *api.Meta) { m.Sum = make([]byte, 33) },
		func(m *api.Meta) { m.Dead = !m.Dead },
	}
	right = []func(*api.Meta){
		func(m *api.Meta) { m.Tag.N = 1 },
		func(m *api.Meta) { m.Tag.N = last },
		func(m *api.Meta) { m.Tag.Client = 0 },
		func(m *api.Meta) { m.Tag.Client = 3 },
	}
	return wrong, right
}

func TestCheck(t *testing.T) {
	wrong, right := bends()
	for i, whole := range []api.Meta{alive(), dead()} {
		if err := meta.Check(whole); err != api.OK {
			t.Errorf("Check(%v): %v", whole, err)
		}
		for _, bend := range wrong {
			m := whole
			bend(&m)
			if err := meta.Check(m); err != api.ErrMeta {
				t.Errorf("Check(%v): %v", m, err)
			}
		}
		for _, bend := range right {
			m := whole
			bend(&m)
			if err := meta.Check(m); err != api.OK {
				t.Errorf("Check(%v): %v", m, err)
			}
		}
		for _, n := range []int{0, 1, 64} { // what one may have and the other not
			size, symbol := whole, whole
			size.Size, symbol.T = n, n
			want := api.OK
			if (i == 0) == (n == 0) {
				want = api.ErrMeta
			}
			if a, b := meta.Check(size), meta.Check(symbol); a != want || b != want {
				t.Errorf("Check with %d: %v, %v", n, a, b)
			}
		}
		sum := whole
		if sum.Sum = nil; (meta.Check(sum) == api.OK) != (i == 1) {
			t.Error("Check without a digest")
		}
		if sum.Sum = make([]byte, 32); (meta.Check(sum) == api.OK) != (i == 0) {
			t.Error("Check with a digest")
		}
		size := whole
		if size.Size = 1024; (meta.Check(size) == api.OK) != (i == 0) {
			t.Error("Check of the greatest size")
		}
	}
	if meta.Check(api.Meta{}) != api.ErrMeta || meta.Check(api.Meta{Dead: true}) != api.ErrMeta {
		t.Error("Check of nothing")
	}
}

func TestKey(t *testing.T) {
	for n := 0; n < 40; n++ {
		if got := meta.Key(strings.Repeat("\xff", n)); got != (n >= 1 && n <= 32) {
			t.Errorf("Key of %d bytes: %v", n, got)
		}
	}
	if !meta.Key("\x00") || !meta.Key(" ") || meta.Key(strings.Repeat("ä", 17)) || !meta.Key(strings.Repeat("ä", 16)) {
		t.Error("Key is about bytes")
	}
}

// records are one of each kind, with what may be greatest and least.
func records() []api.Record {
	places := []api.Place{
		{Block: 0, Esi: 0, Slot: 0, Sum: digest("x")},
		{Block: 1023, Esi: 1<<24 - 1, Slot: 511, Sum: digest("y")},
		{Block: 258, Esi: 66051, Slot: 260, Sum: make([]byte, 32)},
	}
	alone := api.Meta{Tag: api.Tag{N: 16909060, Client: 2}}
	return []api.Record{
		{Kind: api.RecStage, Key: "key", Meta: alive(), Places: places},
		{Kind: api.RecStage, Key: strings.Repeat("k", 32), Meta: alive()},
		{Kind: api.RecCommit, Key: "\x00\xff", Meta: alive()},
		{Kind: api.RecCommit, Key: "k", Meta: dead()},
		{Kind: api.RecAdd, Key: "k", Meta: alone, Places: places},
		{Kind: api.RecDrop, Key: "k", Meta: alone, Places: []api.Place{{}, {Block: 1023, Esi: 1<<24 - 1}, {Block: 1, Esi: 2}}},
	}
}

// weighed is a number with the byte of the greatest weight first.
func weighed(n, width int) []byte {
	var b []byte
	for ; width > 0; width-- {
		b = append([]byte{byte(n)}, b...)
		n >>= 8
	}
	return b
}

func encoded(r api.Record) []byte {
	b := append([]byte{byte(r.Kind), byte(len(r.Key))}, r.Key...)
	b = append(append(b, weighed(r.Meta.Tag.N, 4)...), weighed(r.Meta.Size, 4)...)
	b = append(b, byte(r.Meta.Tag.Client), byte(r.Meta.T), 0, byte(len(r.Meta.Sum)))
	if r.Meta.Dead {
		b[len(b)-2] = 1
	}
	b = append(append(b, r.Meta.Sum...), weighed(len(r.Places), 2)...)
	for _, p := range r.Places {
		b = append(append(append(b, weighed(p.Block, 2)...), weighed(p.Esi, 3)...), weighed(p.Slot, 2)...)
		b = append(append(b, byte(len(p.Sum))), p.Sum...)
	}
	return b
}

func many(n int, p api.Place) []api.Place {
	places := make([]api.Place, n)
	for i := range places {
		places[i] = p
	}
	return places
}

func TestEncodeAndDecode(t *testing.T) {
	for _, r := range records() {
		b, err := meta.Encode(r)
		if err != api.OK || !bytes.Equal(b, encoded(r)) {
			t.Errorf("Encode(%v) = %v, %v", r, b, err)
		}
		if got, err := meta.Decode(encoded(r)); err != api.OK || !sameRecord(got, r) {
			t.Errorf("Decode of %v = %v, %v", r, got, err)
		}
	}
	if b, _ := meta.Encode(records()[3]); len(b) != 17 {
		t.Error("the chapter's example", b)
	}
}

func TestEncodeOfManyPlaces(t *testing.T) {
	all := records()
	for _, i := range []int{0, 4, 5} {
		r := all[i]
		for _, n := range []int{0, 1, 255, 256, 511, 512, 513, 600} {
			r.Places = many(n, all[i].Places[1])
			want := api.OK
			if n > 512 || n == 0 && i > 0 {
				want = api.ErrMeta
			}
			b, err := meta.Encode(r)
			if err != want || err == api.OK && !bytes.Equal(b, encoded(r)) || err != api.OK && len(b) != 0 {
				t.Errorf("Encode of %d places: %v", n, err)
			}
			got, err := meta.Decode(encoded(r))
			if err != want || err == api.OK && !sameRecord(got, r) || err != api.OK && !sameRecord(got, api.Record{}) {
				t.Errorf("Decode of %d places: %v", n, err)
			}
		}
	}
}

// refused: Encode doesn't know the record, nor Decode its bytes.
func refused(t *testing.T, r api.Record) {
	t.Helper()
	if b, err := meta.Encode(r); err != api.ErrMeta || len(b) != 0 {
		t.Errorf("Encode(%v) = %v, %v", r, b, err)
	}
	if got, err := meta.Decode(encoded(r)); err == api.OK && sameRecord(got, r) || err != api.OK && (err != api.ErrMeta || !sameRecord(got, api.Record{})) {
		t.Errorf("Decode of %v = %v, %v", r, got, err)
	}
}

func TestWrongRecords(t *testing.T) {
	wrong, right := bends()
	for _, whole := range records() {
		for _, key := range []string{"", strings.Repeat("k", 33), strings.Repeat("k", 256+5)} {
			r := whole
			r.Key = key
			refused(t, r)
		}
		for _, kind := range []int{0, -1, 5, 256 + whole.Kind, math.MinInt64, math.MaxInt64} {
			r := whole
			r.Kind = kind
			refused(t, r)
		}
		for _, bend := range wrong {
			r := whole
			bend(&r.Meta)
			refused(t, r)
		}
		for _, bend := range right {
			r := whole
			bend(&r.Meta)
			if b, err := meta.Encode(r); err != api.OK || !bytes.Equal(b, encoded(r)) {
				t.Errorf("Encode(%v) = %v, %v", r, b, err)
			}
		}
		for i := range whole.Places {
			for _, bend := range []func(*api.Place){
				func(p *api.Place) { p.Block = -1 },
				func(p *api.Place) { p.Block = 1024 },
				func(p *api.Place) { p.Block = 65536 },
				func(p *api.Place) { p.Esi = -1 },
				func(p *api.Place) { p.Esi = 1 << 24 },
				func(p *api.Place) { p.Esi = math.MinInt64 },
				func(p *api.Place) { p.Slot = -1 },
				func(p *api.Place) { p.Slot = 512 },
				func(p *api.Place) { p.Slot = 65536 },
				func(p *api.Place) { p.Sum = make([]byte, 31) },
				func(p *api.Place) { p.Sum = make([]byte, 33) },
				func(p *api.Place) { p.Sum = make([]byte, 32-len(p.Sum)) },
			} {
				r := whole
				r.Places = append([]api.Place{}, whole.Places...)
				bend(&r.Places[i])
				refused(t, r)
			}
		}
	}
}

func TestRecordsThatAreNotOfTheirKind(t *testing.T) {
	all := records()
	stage, commit, add, drop := all[0], all[2], all[4], all[5]
	stage.Meta = dead()
	refused(t, stage)
	stage.Meta = add.Meta
	refused(t, stage)
	commit.Places = all[0].Places[:1]
	refused(t, commit)
	commit.Places, commit.Meta = nil, add.Meta
	refused(t, commit)
	for _, r := range []api.Record{add, drop} {
		for _, m := range []api.Meta{alive(), dead(), {Tag: alive().Tag, Size: 1}, {Tag: alive().Tag, T: 1}, {Tag: alive().Tag, Sum: make([]byte, 32)}, {Tag: alive().Tag, Sum: make([]byte, 1)}} {
			r.Meta = m
			refused(t, r)
		}
	}
	drop.Places = []api.Place{{Block: 1, Esi: 1, Slot: 1}}
	refused(t, drop)
	drop.Places = []api.Place{{Block: 1, Esi: 1}, {Sum: digest("x")}}
	refused(t, drop)
	for kind := api.RecStage; kind <= api.RecDrop; kind++ {
		for i, r := range all {
			if r.Kind == kind {
				continue
			}
			if r.Kind = kind; kind == api.RecCommit && i == 1 || kind == api.RecStage && i == 2 {
				continue // it is right all the same
			}
			refused(t, r)
		}
	}
}

func TestDecodeOfOtherBytes(t *testing.T) {
	for _, r := range records() {
		whole := encoded(r)
		for n := range whole {
			if got, err := meta.Decode(whole[:n]); err != api.ErrMeta || !sameRecord(got, api.Record{}) {
				t.Errorf("Decode of %d of %d bytes = %v, %v", n, len(whole), got, err)
			}
		}
		for _, behind := range [][]byte{{0}, {1, 2}, make([]byte, 40)} {
			if got, err := meta.Decode(append(bytes.Clone(whole), behind...)); err != api.ErrMeta || !sameRecord(got, api.Record{}) {
				t.Errorf("Decode with %d bytes behind = %v, %v", len(behind), got, err)
			}
		}
		for bit := range 8 * len(whole) {
			b := bytes.Clone(whole)
			b[bit/8] ^= 1 << (bit % 8)
			got, err := meta.Decode(b)
			if err == api.OK {
				again, code := meta.Encode(got)
				if code != api.OK || !bytes.Equal(again, b) || sameRecord(got, r) {
					t.Errorf("Decode of %v = %v", b, got)
				}
			} else if err != api.ErrMeta || !sameRecord(got, api.Record{}) {
				t.Errorf("Decode of %v = %v, %v", b, got, err)
			}
		}
	}
	// A byte for Dead is 0 or 1.
	b := encoded(records()[3])
	for dead := 0; dead < 256; dead++ {
		b[13] = byte(dead)
		if _, err := meta.Decode(b); (err == api.OK) != (dead == 1) {
			t.Errorf("Decode with %d for Dead: %v", dead, err)
		}
	}
	for _, b := range [][]byte{nil, {}, {0}, {2, 255}, bytes.Repeat([]byte{255}, 70000), make([]byte, 300)} {
		if got, err := meta.Decode(b); err != api.ErrMeta || !sameRecord(got, api.Record{}) {
			t.Errorf("Decode of %d bytes = %v, %v", len(b), got, err)
		}
	}
}

// apart: does no list share memory with another, spare room included?
func apart(lists ...[]byte) bool {
	for i, a := range lists {
		for _, b := range lists[:i] {
			x, y := uintptr(unsafe.Pointer(unsafe.SliceData(a))), uintptr(unsafe.Pointer(unsafe.SliceData(b)))
			if x < y+uintptr(cap(b)) && y < x+uintptr(cap(a)) {
				return false
			}
		}
	}
	return true
}

func TestListsAreLeftAndAnswersAreNew(t *testing.T) {
	r := records()[0]
	value, b := []byte("value"), encoded(r)
	tags := []api.Tag{{N: 1}, {N: 3}, {N: 2}}
	first, _ := meta.Of(api.Tag{N: 1}, 4, value)
	second, _ := meta.Of(api.Tag{N: 1}, 4, value)
	end, _ := meta.End(api.Tag{N: 1})
	meta.Check(r.Meta)
	meta.Later(tags...)
	coded, _ := meta.Encode(r)
	got, _ := meta.Decode(b)
	if string(value) != "value" || !sameRecord(r, records()[0]) || !bytes.Equal(b, encoded(r)) || tags[0].N != 1 || tags[1].N != 3 {
		t.Error("what was handed in has changed", value, r, b, tags)
	}
	lists := [][]byte{value, b, coded, first.Sum, second.Sum, end.Sum, r.Meta.Sum, got.Meta.Sum}
	for i := range r.Places {
		lists = append(lists, r.Places[i].Sum, got.Places[i].Sum)
	}
	if !apart(lists...) {
		t.Error("an answer shares memory")
	}
}
