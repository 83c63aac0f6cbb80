package scrub_test

import (
	"bytes"
	"fmt"
	"math"
	"slices"
	"strings"
	"testing"
	"unsafe"

	"rill/api"
	"rill/chunk"
	"rill/disk"
	"rill/meta"
	"rill/place"
	"rill/scrub"
	"rill/store"
)

func three() api.Config {
	return api.Config{Nodes: 3, Write: 2, Read: 2, Clients: 2, T: 4, Slots: 100}
}

func serve(t *testing.T, slots, power int) (*disk.Disk, *store.Store) {
	t.Helper()
	d, _ := disk.New(slots, power)
	s, err := store.Open(d)
	if err != api.OK {
		t.Fatal(err)
	}
	return d, s
}

func metaOf(n, t int, value string) api.Meta {
	m, _ := meta.Of(api.Tag{N: n, Client: 1}, t, []byte(value))
	return m
}

func deadAt(n int) api.Meta {
	m, _ := meta.End(api.Tag{N: n, Client: 1})
	return m
}

func symsOf(value string, t, block int, esis ...int) []api.Sym {
	syms, _ := chunk.Symbols([]byte(value), t, block, esis...)
	return syms
}

// deal is what each node has of the value.
func deal(c api.Config, value string) [][]api.Sym {
	all, _ := place.Deal(c, []byte(value))
	return all
}

func show(syms []api.Sym) string {
	text := ""
	for _, s := range syms {
		text += fmt.Sprintf("(%d %d %x)", s.Block, s.Esi, s.Data)
	}
	return text
}

// keep: the store has the version as committed, with these symbols.
func keep(t *testing.T, s *store.Store, key string, m api.Meta, syms ...api.Sym) {
	t.Helper()
	if a, b := s.Stage(key, m, syms...), s.Commit(key, m); a != api.OK || b != api.OK {
		t.Fatal(a, b)
	}
}

const value = "a value of 23 bytes ..."

func TestScrub(t *testing.T) {
	d, s := serve(t, 20, -1)
	if spots, err := scrub.Scrub(s); err != api.OK || len(spots) != 0 {
		t.Error("Scrub of nothing", spots, err)
	}
	m, later := metaOf(1, 4, value), metaOf(2, 4, value)
	keep(t, s, "k", m, symsOf(value, 4, 0, 9, 3, 5)...)
	s.Stage("k", later, symsOf(value, 4, 0, 1, 0)...)
	s.Stage("a", later, symsOf(value, 4, 0, 7)...)
	if spots, err := scrub.Scrub(s); err != api.OK || len(spots) != 0 || s.Free() != 14 {
		t.Error("Scrub of what is sound", spots, err)
	}
	for _, slot := range []int{0, 1, 4, 5} {
		d.Rot(slot, 9)
	}
	want := []api.Spot{{Key: "a", Tag: later.Tag, Esi: 7}, {Key: "k", Tag: m.Tag, Esi: 3}, {Key: "k", Tag: m.Tag, Esi: 9}, {Key: "k", Tag: later.Tag, Esi: 0}}
	log := len(d.Log())
	spots, err := scrub.Scrub(s)
	if err != api.OK || !slices.Equal(spots, want) || s.Free() != 18 || len(s.Rotten()) != 0 || len(d.Log()) == log {
		t.Error("Scrub", spots, err, s.Free())
	}
	if show(s.Syms("k", m.Tag)) != show(symsOf(value, 4, 0, 5)) || show(s.Syms("k", later.Tag)) != show(symsOf(value, 4, 0, 1)) {
		t.Error("what is left", s.Syms("k", m.Tag))
	}
	if got, _ := s.Meta("k"); got.Tag != m.Tag || len(s.Staged("k")) != 1 || len(s.Staged("a")) != 1 {
		t.Error("a version has changed", got)
	}
	log = len(d.Log())
	if spots, err := scrub.Scrub(s); err != api.OK || len(spots) != 0 || len(d.Log()) != log {
		t.Error("Scrub once more", spots, err)
	}
	again, _ := store.Open(d.Left(api.Fate{}, -1))
	if again.Free() != 18 || len(again.Rotten()) != 0 {
		t.Error("opened anew", again.Free())
	}
}

func TestScrubWithoutPower(t *testing.T) {
	m := metaOf(1, 4, value)
	for spare := 0; spare <= 6; spare++ {
		d, s := serve(t, 9, -1)
		keep(t, s, "k", m, symsOf(value, 4, 0, 0, 1, 2, 3)...)
		d = d.Left(api.Fate{}, spare)
		s, _ = store.Open(d)
		for _, slot := range []int{0, 2, 3} {
			d.Rot(slot, 0)
		}
		all := []api.Spot{{Key: "k", Tag: m.Tag, Esi: 0}, {Key: "k", Tag: m.Tag, Esi: 2}, {Key: "k", Tag: m.Tag, Esi: 3}}
		spots, err := scrub.Scrub(s)
		want := api.ErrDown
		if spare == 6 {
			want = api.OK
		}
		if err != want || !slices.Equal(spots, all[:spare/2]) || s.Free() != 5+spare/2 {
			t.Errorf("with the power %d: %v, %v", spare, spots, err)
		}
	}
}

func TestLacks(t *testing.T) {
	c := three() // two nodes of three; one in common: a block of 6 symbols has shares of 7
	m := metaOf(1, 4, value)
	got, err := scrub.Lacks(c, 1, m)
	if show(got) != "(0 1 )(0 4 )(0 7 )(0 10 )(0 13 )(0 16 )(0 19 )" || err != api.OK {
		t.Error("Lacks of all", show(got), err)
	}
	have := []api.Sym{{Esi: 7}, {Esi: 1, Data: []byte("whatever")}, {Esi: 1}, {Esi: 5}, {Block: 1, Esi: 4}, {Block: -1, Esi: 10}, {Esi: math.MaxInt64}}
	if got, err = scrub.Lacks(c, 1, m, have...); show(got) != "(0 4 )(0 10 )(0 13 )(0 16 )(0 19 )" || err != api.OK {
		t.Error("Lacks of some", show(got), err)
	}
	for node := range 3 {
		own := deal(c, value)[node]
		if got, err := scrub.Lacks(c, node, m, own...); len(got) != 0 || err != api.OK {
			t.Error("Lacks of none", show(got), err)
		}
		if got, err := scrub.Lacks(c, (node+1)%3, m, own...); len(got) != 7 || err != api.OK {
			t.Error("Lacks of another node", show(got), err)
		}
	}
	// It is the meta that tells the symbols' size, not the config.
	two := metaOf(1, 1, strings.Repeat("v", 33))
	got, _ = scrub.Lacks(c, 2, two)
	if parts := []int{17, 16}; len(got) != 18+17 || got[17].Esi != 2+3*17 || got[18].Block != 1 || got[18].Esi != 2 {
		t.Error("Lacks of two blocks", parts, show(got))
	}
}

func TestErrorsOfLacks(t *testing.T) {
	wrong := three()
	wrong.Write = 1
	for i, c := range []struct {
		c    api.Config
		node int
		m    api.Meta
		want api.Errno
	}{
		{wrong, -1, api.Meta{}, api.ErrConfig},
		{api.Config{}, 0, metaOf(1, 4, value), api.ErrConfig},
		{three(), -1, api.Meta{}, api.ErrNode},
		{three(), 3, metaOf(1, 4, value), api.ErrNode},
		{three(), 3, api.Meta{}, api.ErrNode},
		{three(), math.MinInt64, deadAt(1), api.ErrNode},
		{three(), math.MaxInt64, deadAt(1), api.ErrNode},
		{three(), 0, api.Meta{}, api.ErrMeta},
		{three(), 0, deadAt(1), api.ErrMeta},
		{three(), 0, api.Meta{Tag: api.Tag{N: 1}, Size: 1, T: 1}, api.ErrMeta},
		{three(), 0, api.Meta{Tag: api.Tag{N: 1}, Size: 1025, T: 1, Sum: make([]byte, 32)}, api.ErrMeta},
	} {
		if got, err := scrub.Lacks(c.c, c.node, c.m); err != c.want || len(got) != 0 {
			t.Errorf("case %d: %s, %v", i, show(got), err)
		}
	}
}

func TestMend(t *testing.T) {
	c := three()
	all := deal(c, value)
	m := metaOf(3, 4, value)
	for node := range 3 {
		// A symbol rots: scrub drops it, mend lays just it anew.
		d, s := serve(t, 9, -1)
		keep(t, s, "k", m, all[node]...)
		d.Rot(2, 5)
		spots, _ := scrub.Scrub(s)
		if len(spots) != 1 || len(s.Syms("k", m.Tag)) != 6 {
			t.Error("Scrub", spots)
		}
		got, err := scrub.Mend(c, node, s, "k", all[(node+1)%3], all[(node+2)%3])
		if err != api.OK || show(got) != show(all[node][2:3]) || show(s.Syms("k", m.Tag)) != show(all[node]) {
			t.Error("Mend", show(got), err)
		}
		log := len(d.Log())
		if got, err := scrub.Mend(c, node, s, "k"); err != api.OK || len(got) != 0 || len(d.Log()) != log {
			t.Error("Mend of what is whole", show(got), err)
		}
		// A disk is lost: the others give back all.
		d, s = serve(t, 9, -1)
		if err := s.Commit("k", m); err != api.OK {
			t.Fatal(err)
		}
		if got, err := scrub.Mend(c, node, s, "k"); err != api.ErrRank || len(got) != 0 || s.Free() != 9 {
			t.Error("Mend out of nothing", show(got), err)
		}
		got, err = scrub.Mend(c, node, s, "k", nil, all[(node+1)%3])
		if err != api.OK || show(got) != show(all[node]) || show(s.Syms("k", m.Tag)) != show(all[node]) || s.Free() != 2 {
			t.Error("Mend of all", show(got), err)
		}
		if again, _ := s.Meta("k"); again.Tag != m.Tag || !bytes.Equal(again.Sum, m.Sum) || len(s.Keys()) != 1 {
			t.Error("the version has changed", again)
		}
		opened, _ := store.Open(d.Left(api.Fate{}, -1))
		if show(opened.Syms("k", m.Tag)) != show(all[node]) {
			t.Error("opened anew", opened.Free())
		}
	}
}

func TestMendOfWhatIsRottenAndThere(t *testing.T) {
	c := three()
	all, m := deal(c, value), metaOf(3, 4, value)
	d, s := serve(t, 9, -1)
	keep(t, s, "k", m, all[0]...)
	d.Rot(3, 0)
	// It lacks the symbol, but the store has it, rotten as it is: nothing is laid over it.
	got, err := scrub.Mend(c, 0, s, "k")
	if err != api.OK || show(got) != show(all[0][3:4]) || len(s.Rotten()) != 1 || s.Free() != 2 {
		t.Error("Mend ahead of Scrub", show(got), err)
	}
}

func TestMendOfSeveralBlocks(t *testing.T) {
	c := three()
	long := strings.Repeat("0123456789", 9) // of symbols of one byte: 90 of them, three blocks of 30
	m := metaOf(3, 1, long)
	wide := c
	wide.T = 1
	all := deal(wide, long)
	_, s := serve(t, 200, -1)
	some := slices.Concat(all[2][5:20], all[2][40:70])
	keep(t, s, "k", m, some...)
	got, err := scrub.Mend(c, 2, s, "k", all[0][:50], all[1], all[0][50:])
	want := slices.Concat(all[2][:5], all[2][20:40], all[2][70:])
	if err != api.OK || show(got) != show(want) || show(s.Syms("k", m.Tag)) != show(all[2]) {
		t.Error("Mend", show(got), err)
	}
}

func TestErrorsOfMend(t *testing.T) {
	c := three()
	wrong := c
	wrong.Slots = 0
	all, m := deal(c, value), metaOf(3, 4, value)
	d, s := serve(t, 9, -1)
	keep(t, s, "k", m)
	s.Stage("staged", m, all[0]...)
	s.Commit("dead", deadAt(2))
	other := deal(c, strings.ToUpper(value))
	bent := slices.Clone(all[1][:1])
	bent[0].Data = []byte("????")
	log := string(d.Log())
	for i, x := range []struct {
		c      api.Config
		node   int
		key    string
		others [][]api.Sym
		want   api.Errno
	}{
		{wrong, -1, "", nil, api.ErrConfig},
		{c, -1, "", nil, api.ErrNode},
		{c, 3, "k", [][]api.Sym{all[1]}, api.ErrNode},
		{c, 3, "", nil, api.ErrNode},
		{c, math.MaxInt64, "k", nil, api.ErrNode},
		{c, 0, "", [][]api.Sym{all[1]}, api.ErrKey},
		{c, 0, strings.Repeat("k", 33), nil, api.ErrKey},
		{c, 0, "j", [][]api.Sym{all[1]}, api.ErrNone},
		{c, 0, "staged", [][]api.Sym{all[1]}, api.ErrNone},
		{c, 0, "dead", [][]api.Sym{all[1]}, api.ErrNone},
		{c, 0, "k", nil, api.ErrRank},
		{c, 0, "k", [][]api.Sym{all[1][:3], nil, all[2][:2]}, api.ErrRank},
		{c, 0, "k", [][]api.Sym{slices.Repeat(all[1][:5], 3)}, api.ErrRank},
		{c, 0, "k", [][]api.Sym{bent, all[2], all[1]}, api.ErrClash},
		{c, 0, "k", [][]api.Sym{other[1], all[2]}, api.ErrClash},
		{c, 0, "k", [][]api.Sym{other[1]}, api.ErrClash}, // another value
	} {
		if got, err := scrub.Mend(x.c, x.node, s, x.key, x.others...); err != x.want || len(got) != 0 {
			t.Errorf("case %d: %s, %v, not %v", i, show(got), err, x.want)
		}
		if string(d.Log()) != log {
			t.Fatalf("case %d has changed the store", i)
		}
	}
}

func TestMendWithoutRoomOrPower(t *testing.T) {
	c := three()
	all, m := deal(c, value), metaOf(3, 4, value)
	d, s := serve(t, 6, -1)
	keep(t, s, "k", m)
	if got, err := scrub.Mend(c, 0, s, "k", all[1]); err != api.ErrFull || len(got) != 0 || s.Free() != 6 {
		t.Error("seven symbols for six slots", show(got), err)
	}
	_ = d
	for power := range 11 {
		d, s := serve(t, 9, -1)
		keep(t, s, "k", m)
		d = d.Left(api.Fate{}, power)
		s, _ = store.Open(d)
		got, err := scrub.Mend(c, 0, s, "k", all[1])
		if power < 10 && (err != api.ErrDown || len(got) != 0) || power == 10 && (err != api.OK || show(got) != show(all[0])) {
			t.Errorf("with the power %d: %s, %v", power, show(got), err)
		}
		// All in one call: nothing of it is there, or all.
		left, _ := store.Open(d.Left(api.Fate{Keep: 9999, Slots: []int{1}}, -1))
		if n := len(left.Syms("k", m.Tag)); n != 0 && n != 7 || power >= 9 && n != 7 {
			t.Errorf("with the power %d: %d symbols are left", power, n)
		}
	}
}

func TestWhichSymbolsCount(t *testing.T) {
	c := three()
	all, m := deal(c, value), metaOf(3, 4, value)
	var bad []api.Sym
	for esi := range 6 {
		bad = append(bad, api.Sym{Esi: esi}, api.Sym{Esi: esi, Data: []byte("abc")}, api.Sym{Block: 1, Esi: esi, Data: []byte("abcd")}, api.Sym{Block: -1, Esi: esi, Data: []byte("abcd")})
	}
	bad = append(bad, api.Sym{Esi: -1, Data: []byte("abcd")}, api.Sym{Esi: 1 << 24, Data: []byte("abcd")}, api.Sym{Esi: math.MaxInt64, Data: []byte("abcd")})
	_, s := serve(t, 20, -1)
	keep(t, s, "k", m, symsOf(value, 4, 0, 1)...)
	wrong := symsOf(value, 4, 0, 1)
	wrong[0].Data = []byte("????") // the store's own one is met ahead of it
	got, err := scrub.Mend(c, 0, s, "k", bad, wrong, all[1], wrong, symsOf(strings.ToUpper(value), 4, 0, 4))
	if err != api.OK || show(got) != show(all[0]) {
		t.Error("Mend", show(got), err)
	}

	// Of a block the first 128 count.
	upTo := func(from, to int) []api.Sym {
		var esis []int
		for esi := from; esi < to; esi++ {
			esis = append(esis, esi)
		}
		return symsOf(value, 4, 0, esis...)
	}
	turned := upTo(300, 301)
	turned[0].Data[0] ^= 1
	for n := 126; n < 131; n++ {
		_, s := serve(t, 20, -1)
		keep(t, s, "k", m, upTo(0, 1)...) // and this is one of them
		got, err := scrub.Mend(c, 0, s, "k", upTo(1, n), upTo(1, 9), turned)
		if n < 128 && (err != api.ErrClash || len(got) != 0) || n >= 128 && (err != api.OK || show(got) != show(all[0][1:])) {
			t.Errorf("%d symbols and a wrong one: %s, %v", n, show(got), err)
		}
	}
}

// apart: does no list share memory with another, spare room included?
func apart(lists ...[]byte) bool {
	for i, a := range lists {
		for _, b := range lists[:i] {
			x, y := uintptr(unsafe.Pointer(unsafe.SliceData(a))), uintptr(unsafe.Pointer(unsafe.SliceData(b)))
			if x < y+uintptr(cap(b)) && y < x+uintptr(cap(a)) {
				return false
			}
		}
	}
	return true
}

func TestListsAreLeftAndAnswersAreNew(t *testing.T) {
	c := three()
	all, m := deal(c, value), metaOf(3, 4, value)
	_, s := serve(t, 20, -1)
	keep(t, s, "k", m, all[0][:3]...)
	others := append(slices.Clone(all[1]), api.Sym{Block: 77})
	have := append(slices.Clone(all[0][:3]), api.Sym{Block: 77})
	lacks, _ := scrub.Lacks(c, 0, m, have[:3]...)
	got, err := scrub.Mend(c, 0, s, "k", others[:7], others[2:5])
	if err != api.OK || len(got) != 4 || len(lacks) != 4 {
		t.Error(show(got), show(lacks), err)
	}
	if show(all[1]) != show(deal(c, value)[1]) || show(have[:3]) != show(deal(c, value)[0][:3]) || others[7].Block != 77 || have[3].Block != 77 || !bytes.Equal(m.Sum, metaOf(3, 4, value).Sum) {
		t.Error("what was handed in has changed")
	}
	var lists [][]byte
	for _, sym := range slices.Concat(got, all[1], s.Syms("k", m.Tag)) {
		lists = append(lists, sym.Data)
	}
	if !apart(lists...) {
		t.Error("an answer shares memory")
	}
	for _, list := range lists {
		clear(list[:cap(list)])
	}
	if show(s.Syms("k", m.Tag)) != show(all[0]) {
		t.Error("the store has kept what was answered")
	}
}

func TestNoStore(t *testing.T) {
	if spots, _ := scrub.Scrub(nil); len(spots) != 0 {
		t.Error("Scrub of no store", spots)
	}
	if got, err := scrub.Mend(three(), 0, nil, "k", deal(three(), value)...); len(got) != 0 || err == api.OK {
		t.Error("Mend of no store", show(got), err)
	}
}
