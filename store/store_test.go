package store_test

import (
	"bytes"
	"crypto/sha256"
	"fmt"
	"math"
	"math/rand"
	"slices"
	"strings"
	"testing"
	"unsafe"

	"rill/api"
	"rill/chunk"
	"rill/disk"
	"rill/frame"
	"rill/meta"
	"rill/store"
)

func digest(b []byte) []byte {
	sum := sha256.Sum256(b)
	return sum[:]
}

func newDisk(t *testing.T, slots, power int) *disk.Disk {
	t.Helper()
	d, err := disk.New(slots, power)
	if err != api.OK {
		t.Fatal(err)
	}
	return d
}

func open(t *testing.T, d *disk.Disk) *store.Store {
	t.Helper()
	s, err := store.Open(d)
	if err != api.OK || s == nil {
		t.Fatal("Open:", err)
	}
	return s
}

func tag(n, client int) api.Tag { return api.Tag{N: n, Client: client} }

func metaOf(n, client, t int, value string) api.Meta {
	m, _ := meta.Of(tag(n, client), t, []byte(value))
	return m
}

func deadAt(n, client int) api.Meta {
	m, _ := meta.End(tag(n, client))
	return m
}

func symsOf(value string, t, block int, esis ...int) []api.Sym {
	syms, _ := chunk.Symbols([]byte(value), t, block, esis...)
	return syms
}

// show tells all of a store, and of the slots of a disk.
func show(s *store.Store, keys ...string) string {
	var b strings.Builder
	fmt.Fprintf(&b, "free %d keys %q rotten %v\n", s.Free(), s.Keys(), s.Rotten())
	for _, key := range keys {
		m, there := s.Meta(key)
		fmt.Fprintf(&b, "%q: %s %v", key, showMeta(m), there)
		for _, st := range s.Staged(key) {
			fmt.Fprintf(&b, " staged %s %s", showMeta(st), showSyms(s.Syms(key, st.Tag)))
		}
		fmt.Fprintf(&b, " has %s\n", showSyms(s.Syms(key, m.Tag)))
	}
	return b.String()
}

func showMeta(m api.Meta) string {
	return fmt.Sprintf("%d/%d %d %d %v %x", m.Tag.N, m.Tag.Client, m.Size, m.T, m.Dead, m.Sum)
}

func showSyms(syms []api.Sym) string {
	var b strings.Builder
	for _, sym := range syms {
		fmt.Fprintf(&b, "(%d %d %x)", sym.Block, sym.Esi, sym.Data)
	}
	return b.String()
}

func want(t *testing.T, name string, got, want api.Errno) {
	t.Helper()
	if got != want {
		t.Errorf("%s: %v, not %v", name, got, want)
	}
}

func TestOpenOfAnEmptyDisk(t *testing.T) {
	s := open(t, newDisk(t, 7, 0))
	if got := show(s, "k", ""); got != "free 7 keys [] rotten []\n\"k\": 0/0 0 0 false  false has \n\"\": 0/0 0 0 false  false has \n" {
		t.Error(got)
	}
}

func TestStageAndCommit(t *testing.T) {
	d := newDisk(t, 10, -1)
	s := open(t, d)
	value := "a value of 23 bytes ..."
	m, syms := metaOf(3, 1, 4, value), symsOf(value, 4, 0, 5, 1, 1<<24-1)
	want(t, "Stage", s.Stage("k", m, syms...), api.OK)
	if got, there := s.Meta("k"); there || showMeta(got) != showMeta(api.Meta{}) || len(s.Keys()) != 0 {
		t.Error("what is staged isn't committed", got, there)
	}
	staged := s.Staged("k")
	if len(staged) != 1 || showMeta(staged[0]) != showMeta(m) || s.Free() != 7 || len(s.Staged("j")) != 0 || len(s.Staged("")) != 0 {
		t.Error("Staged", staged, s.Free())
	}
	sorted := []api.Sym{syms[1], syms[0], syms[2]}
	if got := showSyms(s.Syms("k", tag(3, 1))); got != showSyms(sorted) {
		t.Error("Syms", got)
	}
	if len(s.Syms("k", tag(3, 0))) != 0 || len(s.Syms("j", tag(3, 1))) != 0 || len(s.Syms("k", tag(0, 0))) != 0 {
		t.Error("Syms of others")
	}
	want(t, "Commit", s.Commit("k", m), api.OK)
	if got, there := s.Meta("k"); !there || showMeta(got) != showMeta(m) || len(s.Staged("k")) != 0 || !slices.Equal(s.Keys(), []string{"k"}) {
		t.Error("Commit", got, there, s.Staged("k"), s.Keys())
	}
	if got := showSyms(s.Syms("k", tag(3, 1))); got != showSyms(sorted) || s.Free() != 7 {
		t.Error("Syms of what is committed", got)
	}
	again := open(t, d.Left(api.Fate{}, 0))
	if show(again, "k") != show(s, "k") {
		t.Error("opened anew:", show(again, "k"))
	}
	// A later version is committed: the elder one's slots are free.
	want(t, "Commit", s.Commit("k", metaOf(4, 0, 4, "new")), api.OK)
	if s.Free() != 10 || len(s.Syms("k", tag(3, 1))) != 0 || len(s.Rotten()) != 0 {
		t.Error("the slots of the elder version", show(s, "k"))
	}
	if show(open(t, d.Left(api.Fate{}, 0)), "k") != show(s, "k") {
		t.Error("opened anew")
	}
}

// records are those of a disk's log.
func records(t *testing.T, d *disk.Disk) []api.Record {
	t.Helper()
	payloads, n := frame.Scan(d.Log())
	if n != len(d.Log()) {
		t.Error("the log has more than frames")
	}
	var all []api.Record
	for _, p := range payloads {
		r, err := meta.Decode(p)
		if err != api.OK {
			t.Error("a record:", err)
		}
		all = append(all, r)
	}
	return all
}

func showRecord(r api.Record) string {
	var b strings.Builder
	fmt.Fprintf(&b, "%d %q %s", r.Kind, r.Key, showMeta(r.Meta))
	for _, p := range r.Places {
		fmt.Fprintf(&b, " (%d %d %d %x)", p.Block, p.Esi, p.Slot, p.Sum)
	}
	return b.String()
}

// used is how many of the disk's calls it takes.
func used(d *disk.Disk, power int) int {
	left := 0
	for d.SyncLog() == api.OK {
		left++
	}
	return power - left
}

func TestTheCallsOfEachChange(t *testing.T) {
	value := strings.Repeat("v", 40)
	m := metaOf(2, 0, 1, value) // two blocks of 20
	first, second := symsOf(value, 1, 0, 3, 9), symsOf(value, 1, 1, 3, 0)
	place := func(sym api.Sym, slot int) api.Place {
		return api.Place{Block: sym.Block, Esi: sym.Esi, Slot: slot, Sum: digest(sym.Data)}
	}
	record := func(kind int, m api.Meta, places ...api.Place) string {
		return showRecord(api.Record{Kind: kind, Key: "k", Meta: m, Places: places})
	}
	alone := api.Meta{Tag: m.Tag}
	nothing := func(*store.Store) api.Errno { return api.OK }
	commit := func(s *store.Store) api.Errno { return s.Commit("k", m) }
	stage := func(s *store.Store) api.Errno { return s.Stage("k", m, first[0]) }
	for _, c := range []struct {
		name      string
		ahead     func(*store.Store) api.Errno
		callsThen int
		do        func(*store.Store) api.Errno
		calls     int
		log       []string // what do has put behind it
	}{
		{"Stage of a meta alone", nothing, 0, func(s *store.Store) api.Errno { return s.Stage("k", m) }, 2,
			[]string{record(api.RecStage, m)}},
		{"Stage with symbols", nothing, 0, func(s *store.Store) api.Errno {
			return s.Stage("k", m, first[0], first[1], second[0], first[0], second[1], second[1])
		}, 4 + 3, []string{record(api.RecStage, m, place(first[0], 0), place(first[1], 1), place(second[0], 2), place(second[1], 3))}},
		{"Stage of what is staged", stage, 4, func(s *store.Store) api.Errno { return s.Stage("k", m, first[0], first[0]) }, 0, nil},
		{"Stage of a meta that is staged", stage, 4, func(s *store.Store) api.Errno { return s.Stage("k", m) }, 0, nil},
		{"Stage of more", stage, 4, func(s *store.Store) api.Errno { return s.Stage("k", m, first...) }, 4,
			[]string{record(api.RecStage, m, place(first[1], 1))}},
		{"Commit", nothing, 0, commit, 2, []string{record(api.RecCommit, m)}},
		{"Commit of what is staged", stage, 4, commit, 2, []string{record(api.RecCommit, m)}},
		{"Commit of an end", commit, 2, func(s *store.Store) api.Errno { return s.Commit("k", deadAt(2, 3)) }, 2,
			[]string{record(api.RecCommit, deadAt(2, 3))}},
		{"Commit twice", commit, 2, commit, 0, nil},
		{"Commit of an elder one", commit, 2, func(s *store.Store) api.Errno { return s.Commit("k", deadAt(1, 3)) }, 0, nil},
		{"Add", commit, 2, func(s *store.Store) api.Errno { return s.Add("k", m.Tag, second[0], second[0], second[1]) }, 5,
			[]string{record(api.RecAdd, alone, place(second[0], 0), place(second[1], 1))}},
		{"Add to what is staged", stage, 4, func(s *store.Store) api.Errno { return s.Add("k", m.Tag, second[0], first[0]) }, 4,
			[]string{record(api.RecAdd, alone, place(second[0], 1))}},
		{"Add of nothing", commit, 2, func(s *store.Store) api.Errno { return s.Add("k", m.Tag) }, 0, nil},
		{"Add of what is there", stage, 4, func(s *store.Store) api.Errno { return s.Add("k", m.Tag, first[0]) }, 0, nil},
		{"Drop", stage, 4, func(s *store.Store) api.Errno { return s.Drop("k", m.Tag, 0, 3) }, 2,
			[]string{record(api.RecDrop, alone, api.Place{Block: 0, Esi: 3})}},
	} {
		for spare := 0; spare <= c.calls+1; spare++ {
			d := newDisk(t, 9, c.callsThen+spare)
			s := open(t, d)
			want(t, c.name+", ahead", c.ahead(s), api.OK)
			before, behind := show(s, "k"), len(records(t, d))
			if spare < c.calls {
				want(t, c.name+" with too little power", c.do(s), api.ErrDown)
				if now := show(s, "k"); now != before {
					t.Errorf("%s: with %d calls less it has changed the store: %s", c.name, c.calls-spare, now)
				}
				continue
			}
			want(t, c.name, c.do(s), api.OK)
			var log []string
			for _, r := range records(t, d)[behind:] {
				log = append(log, showRecord(r))
			}
			if !slices.Equal(log, c.log) {
				t.Errorf("%s: the log has %q", c.name, log)
			}
			if n := used(d, spare); n != c.calls {
				t.Errorf("%s: %d calls, not %d", c.name, n, c.calls)
			}
		}
	}
}

func TestSlotsAreWrittenAheadOfTheRecord(t *testing.T) {
	value := "abcdefgh"
	m, syms := metaOf(1, 0, 4, value), symsOf(value, 4, 0, 0, 1, 2)
	for power := 0; power <= 6; power++ {
		d := newDisk(t, 5, power)
		s := open(t, d)
		err := s.Stage("k", m, syms...)
		written := 0
		for slot := range 5 {
			if b, _ := d.Read(slot); len(b) > 0 {
				if !bytes.Equal(b, syms[slot].Data) {
					t.Errorf("the slot %d has %q", slot, b)
				}
				written++
			}
		}
		safe := d.Left(api.Fate{}, -1)
		b, _ := safe.Read(2)
		if wantErr := map[bool]api.Errno{true: api.ErrDown, false: api.OK}[power < 6]; err != wantErr || written != min(power, 3) || (len(b) > 0) != (power >= 4) || (len(d.Log()) > 0) != (power >= 5) || (len(safe.Log()) > 0) != (power >= 6) {
			t.Errorf("with the power %d: %v, %d slots, %q safe, %d bytes in the log", power, err, written, b, len(d.Log()))
		}
		if got := len(s.Staged("k")); (got == 1) != (power >= 6) {
			t.Errorf("with the power %d: %d staged", power, got)
		}
		// Whatever the loss leaves: nothing of the stage, or all.
		for keep := -1; keep <= len(d.Log()); keep++ {
			for _, fates := range [][]int{nil, {1}, {2}, {0, 1, 2}} {
				again := open(t, d.Left(api.Fate{Keep: keep, Slots: fates}, -1))
				whole := power >= 6 || power == 5 && keep == len(d.Log())
				if got := showSyms(again.Syms("k", m.Tag)); whole && got != showSyms(syms) || !whole && (got != "" || len(again.Staged("k")) != 0) || len(again.Rotten()) != 0 {
					t.Errorf("power %d, keep %d of %d, fates %v: %s, %v", power, keep, len(d.Log()), fates, got, again.Rotten())
				}
			}
		}
	}
}

func TestErrorsOfStage(t *testing.T) {
	value := strings.Repeat("v", 40)
	good := metaOf(5, 1, 1, value) // two blocks
	sym := func(block, esi, length int) api.Sym {
		return api.Sym{Block: block, Esi: esi, Data: make([]byte, length)}
	}
	d := newDisk(t, 3, -1)
	s := open(t, d)
	want(t, "Commit", s.Commit("k", metaOf(4, 1, 1, "old")), api.OK)
	want(t, "Stage", s.Stage("k", metaOf(7, 0, 1, "staged")), api.OK)
	wrong, other := good, metaOf(7, 0, 1, "another")
	wrong.Size = 1025
	before, log := show(s, "k"), string(d.Log())
	for i, c := range []struct {
		key  string
		m    api.Meta
		syms []api.Sym
		want api.Errno
	}{
		{"", good, nil, api.ErrKey},
		{strings.Repeat("k", 33), good, nil, api.ErrKey},
		{"", wrong, []api.Sym{sym(-1, -1, 0)}, api.ErrKey},
		{"k", wrong, []api.Sym{sym(-1, -1, 0)}, api.ErrMeta},
		{"k", api.Meta{}, nil, api.ErrMeta},
		{"k", deadAt(9, 0), nil, api.ErrMeta},
		{"k", deadAt(9, 0), []api.Sym{sym(0, 0, 1)}, api.ErrMeta},
		{"k", good, []api.Sym{sym(2, 0, 1)}, api.ErrBlock},
		{"k", good, []api.Sym{sym(-1, 0, 1)}, api.ErrBlock},
		{"k", good, []api.Sym{sym(0, 0, 1), sym(math.MaxInt64, 0, 1)}, api.ErrBlock},
		{"k", good, []api.Sym{sym(0, -1, 0), sym(2, 0, 1)}, api.ErrBlock},
		{"k", good, []api.Sym{sym(0, -1, 1)}, api.ErrEsi},
		{"k", good, []api.Sym{sym(0, 1<<24, 1)}, api.ErrEsi},
		{"k", good, []api.Sym{sym(0, 0, 0), sym(1, math.MinInt64, 1)}, api.ErrEsi},
		{"k", good, []api.Sym{sym(0, 0, 0)}, api.ErrLength},
		{"k", good, []api.Sym{sym(0, 0, 1), sym(1, 0, 2)}, api.ErrLength},
		{"k", metaOf(4, 1, 1, "old"), []api.Sym{sym(0, 0, 2)}, api.ErrLength},
		{"k", metaOf(4, 1, 1, "old"), nil, api.ErrStale},
		{"k", metaOf(4, 0, 1, "old"), nil, api.ErrStale},
		{"k", metaOf(3, 3, 1, "old"), []api.Sym{sym(0, 0, 1), sym(0, 1, 1), sym(0, 2, 1), sym(0, 3, 1)}, api.ErrStale},
		{"k", other, nil, api.ErrClash},
		{"k", metaOf(7, 0, 1, "STAGED"), nil, api.ErrClash},
		{"k", metaOf(7, 0, 2, "staged"), nil, api.ErrClash},
		{"k", other, []api.Sym{sym(0, 0, 1), sym(0, 1, 1), sym(0, 2, 1), sym(0, 3, 1)}, api.ErrClash},
		{"k", good, []api.Sym{sym(0, 0, 1), sym(0, 1, 1), sym(0, 2, 1), sym(0, 3, 1)}, api.ErrFull},
		{"k", metaOf(7, 0, 1, "staged"), []api.Sym{sym(0, 0, 1), sym(0, 1, 1), sym(0, 2, 1), sym(0, 3, 1)}, api.ErrFull},
	} {
		if err := s.Stage(c.key, c.m, c.syms...); err != c.want {
			t.Errorf("case %d: %v, not %v", i, err, c.want)
		}
		if show(s, "k") != before || string(d.Log()) != log {
			t.Fatalf("case %d has changed the store", i)
		}
	}
	want(t, "as many as there are free slots", s.Stage("k", good, sym(0, 0, 1), sym(0, 1, 1), sym(0, 0, 1), sym(1, 2, 1)), api.OK)
	want(t, "one more", s.Stage("k", good, sym(0, 5, 1)), api.ErrFull)
	want(t, "of another key", s.Stage("j", good, sym(0, 5, 1)), api.ErrFull)
	want(t, "none more", s.Stage("k", good, sym(0, 0, 1), sym(1, 2, 1)), api.OK)
	want(t, "a meta alone", s.Stage("j", good), api.OK)
	want(t, "the longest key", s.Stage(strings.Repeat("k", 32), good), api.OK)
	if s.Free() != 0 {
		t.Error("Free", s.Free())
	}
}

func TestCommitOfStagedVersions(t *testing.T) {
	value := "abcdefgh"
	stage := func(s *store.Store, key string, n, client int, esis ...int) {
		t.Helper()
		want(t, "Stage", s.Stage(key, metaOf(n, client, 4, value), symsOf(value, 4, 0, esis...)...), api.OK)
	}
	s := open(t, newDisk(t, 20, -1))
	stage(s, "k", 7, 0, 0, 1)
	stage(s, "k", 3, 2, 2)
	stage(s, "k", 3, 1, 3, 4, 5)
	stage(s, "k", 9, 3, 6)
	stage(s, "j", 3, 0, 0, 1)
	tags := func() string {
		var all []api.Tag
		for _, m := range s.Staged("k") {
			all = append(all, m.Tag)
		}
		return fmt.Sprint(all)
	}
	if tags() != "[{3 1} {3 2} {7 0} {9 3}]" || s.Free() != 11 {
		t.Error("Staged", tags(), s.Free())
	}
	for i, c := range []struct {
		key  string
		m    api.Meta
		want api.Errno
	}{
		{"", metaOf(7, 0, 4, value), api.ErrKey},
		{strings.Repeat("k", 33), api.Meta{}, api.ErrKey},
		{"k", api.Meta{}, api.ErrMeta},
		{"k", api.Meta{Tag: tag(7, 0)}, api.ErrMeta},
		{"k", metaOf(7, 0, 4, "another"), api.ErrClash},
		{"k", metaOf(7, 0, 5, value), api.ErrClash},
		{"k", metaOf(7, 0, 4, "ABCDEFGH"), api.ErrClash},
		{"k", deadAt(7, 0), api.ErrClash},
	} {
		if err := s.Commit(c.key, c.m); err != c.want {
			t.Errorf("case %d: %v, not %v", i, err, c.want)
		}
	}
	want(t, "Commit of what wasn't staged", s.Commit("k", metaOf(3, 3, 4, "other")), api.OK)
	if tags() != "[{7 0} {9 3}]" || s.Free() != 15 || len(s.Syms("k", tag(3, 2))) != 0 {
		t.Error("behind it", tags(), s.Free())
	}
	want(t, "Commit", s.Commit("k", metaOf(7, 0, 4, value)), api.OK)
	if tags() != "[{9 3}]" || s.Free() != 15 || len(s.Syms("k", tag(7, 0))) != 2 || len(s.Syms("k", tag(9, 3))) != 1 {
		t.Error("behind it", tags(), s.Free())
	}
	want(t, "another one of the committed tag", s.Commit("k", metaOf(7, 0, 4, "another")), api.OK)
	if m, _ := s.Meta("k"); showMeta(m) != showMeta(metaOf(7, 0, 4, value)) {
		t.Error("the committed one has changed", m)
	}
	want(t, "Commit of an end", s.Commit("k", deadAt(8, 0)), api.OK)
	if tags() != "[{9 3}]" || s.Free() != 17 || !slices.Equal(s.Keys(), []string{"k"}) {
		t.Error("behind it", tags(), s.Free(), s.Keys())
	}
	want(t, "Commit of j", s.Commit("j", deadAt(9, 0)), api.OK)
	if s.Free() != 19 || !slices.Equal(s.Keys(), []string{"j", "k"}) {
		t.Error("behind it", s.Free(), s.Keys())
	}
	want(t, "Stage behind an end", s.Stage("j", metaOf(9, 0, 4, value)), api.ErrStale)
	want(t, "Stage behind an end", s.Stage("j", metaOf(9, 1, 4, value)), api.OK)
}

func TestAdd(t *testing.T) {
	value := strings.Repeat("v", 40)
	m := metaOf(5, 1, 1, value)
	one, two := symsOf(value, 1, 0, 0, 1, 2, 3, 4, 5), symsOf(value, 1, 1, 0, 1, 2, 3)
	s := open(t, newDisk(t, 4, -1))
	want(t, "without a version", s.Add("k", m.Tag, one[0]), api.ErrNone)
	want(t, "without a version or symbols", s.Add("k", m.Tag), api.ErrNone)
	want(t, "of no tag", s.Add("k", api.Tag{}), api.ErrNone)
	want(t, "without a key", s.Add("", m.Tag), api.ErrKey)
	want(t, "of a long key", s.Add(strings.Repeat("k", 33), m.Tag), api.ErrKey)
	want(t, "Stage", s.Stage("k", m, one[1]), api.OK)
	want(t, "of what is staged", s.Add("k", m.Tag, one[1], two[0]), api.OK)
	if got := showSyms(s.Syms("k", m.Tag)); got != showSyms([]api.Sym{one[1], two[0]}) || s.Free() != 2 {
		t.Error("behind it", got)
	}
	want(t, "Commit", s.Commit("k", m), api.OK)
	before := show(s, "k")
	for i, c := range []struct {
		t    api.Tag
		syms []api.Sym
		want api.Errno
	}{
		{tag(5, 0), one, api.ErrNone},
		{tag(6, 1), []api.Sym{{Block: -1}}, api.ErrNone},
		{m.Tag, []api.Sym{{Block: 2, Data: []byte("a")}}, api.ErrBlock},
		{m.Tag, []api.Sym{{Esi: -1}, {Block: -1}}, api.ErrBlock},
		{m.Tag, []api.Sym{{Esi: 1 << 24, Data: []byte("a")}}, api.ErrEsi},
		{m.Tag, []api.Sym{{}, {Esi: -1}}, api.ErrEsi},
		{m.Tag, []api.Sym{{}}, api.ErrLength},
		{m.Tag, []api.Sym{{Data: []byte("ab")}}, api.ErrLength},
		{m.Tag, one[2:5], api.ErrFull},
		{m.Tag, []api.Sym{one[1], two[0]}, api.OK},
	} {
		if err := s.Add("k", c.t, c.syms...); err != c.want {
			t.Errorf("case %d: %v, not %v", i, err, c.want)
		}
		if show(s, "k") != before {
			t.Fatalf("case %d has changed the store", i)
		}
	}
	want(t, "of what is committed", s.Add("k", m.Tag, two[3], one[1], one[2], two[3]), api.OK)
	if got := showSyms(s.Syms("k", m.Tag)); got != showSyms([]api.Sym{one[1], one[2], two[0], two[3]}) || s.Free() != 0 {
		t.Error("behind it", got)
	}
	want(t, "Commit of an end", s.Commit("k", deadAt(6, 0)), api.OK)
	want(t, "to an end", s.Add("k", tag(6, 0)), api.ErrNone)
	want(t, "to what was", s.Add("k", m.Tag), api.ErrNone)
}

func TestDrop(t *testing.T) {
	value := strings.Repeat("v", 40)
	m := metaOf(5, 1, 1, value)
	one, two := symsOf(value, 1, 0, 0, 1, 2), symsOf(value, 1, 1, 0, 1)
	d := newDisk(t, 6, -1)
	s := open(t, d)
	want(t, "Stage", s.Stage("k", m, append(slices.Clone(one), two...)...), api.OK)
	for i, c := range []struct {
		key        string
		t          api.Tag
		block, esi int
		want       api.Errno
	}{
		{"", m.Tag, 0, 0, api.ErrKey},
		{strings.Repeat("k", 33), m.Tag, 0, 0, api.ErrKey},
		{"j", m.Tag, 0, 0, api.ErrNone},
		{"k", tag(5, 0), 0, 0, api.ErrNone},
		{"k", m.Tag, 0, 3, api.ErrNone},
		{"k", m.Tag, 1, 2, api.ErrNone},
		{"k", m.Tag, 2, 0, api.ErrNone},
		{"k", m.Tag, -1, math.MinInt64, api.ErrNone},
		{"k", m.Tag, math.MaxInt64, -1, api.ErrNone},
	} {
		if err := s.Drop(c.key, c.t, c.block, c.esi); err != c.want {
			t.Errorf("case %d: %v, not %v", i, err, c.want)
		}
	}
	want(t, "Drop", s.Drop("k", m.Tag, 0, 1), api.OK)
	want(t, "Drop twice", s.Drop("k", m.Tag, 0, 1), api.ErrNone)
	if got := showSyms(s.Syms("k", m.Tag)); got != showSyms([]api.Sym{one[0], one[2], two[0], two[1]}) || s.Free() != 2 {
		t.Error("behind it", got)
	}
	want(t, "Commit", s.Commit("k", m), api.OK)
	want(t, "Drop of what is committed", s.Drop("k", m.Tag, 1, 1), api.OK)
	if show(open(t, d.Left(api.Fate{}, 0)), "k") != show(s, "k") {
		t.Error("opened anew")
	}
	// The least free slots are taken again, one behind the other.
	want(t, "Add", s.Add("k", m.Tag, two[1], one[1]), api.OK)
	log := records(t, d)
	if places := log[len(log)-1].Places; len(places) != 2 || places[0].Slot != 1 || places[1].Slot != 4 {
		t.Error("slots", places)
	}
}

func TestRot(t *testing.T) {
	value := "abcdefghijkl"
	m, syms := metaOf(2, 0, 4, value), symsOf(value, 4, 0, 0, 1, 2)
	d := newDisk(t, 9, -1)
	s := open(t, d)
	want(t, "Stage", s.Stage("k", m, syms...), api.OK)
	want(t, "Commit", s.Commit("k", m), api.OK)
	want(t, "Stage", s.Stage("k", metaOf(3, 0, 4, value), syms[2], syms[1]), api.OK)
	want(t, "Stage", s.Stage("a", metaOf(9, 0, 4, value), syms[1]), api.OK)
	for _, slot := range []int{0, 2, 3, 4, 5} {
		want(t, "Rot", d.Rot(slot, 7), api.OK)
	}
	if got := showSyms(s.Syms("k", m.Tag)); got != showSyms(syms[1:2]) || s.Free() != 3 {
		t.Error("Syms", got)
	}
	spots := []api.Spot{{Key: "a", Tag: tag(9, 0), Esi: 1}, {Key: "k", Tag: tag(2, 0)}, {Key: "k", Tag: tag(2, 0), Esi: 2}, {Key: "k", Tag: tag(3, 0), Esi: 1}, {Key: "k", Tag: tag(3, 0), Esi: 2}}
	if got := s.Rotten(); !slices.Equal(got, spots) {
		t.Error("Rotten", got)
	}
	want(t, "what is rotten is there", s.Add("k", m.Tag, syms[0]), api.OK)
	if got := s.Rotten(); !slices.Equal(got, spots) || s.Free() != 3 {
		t.Error("Rotten", got)
	}
	want(t, "Rot back", d.Rot(2, 7), api.OK)
	if got := showSyms(s.Syms("k", m.Tag)); got != showSyms(syms[1:]) || len(s.Rotten()) != 4 {
		t.Error("Syms", got)
	}
	want(t, "Drop of a rotten one", s.Drop("k", m.Tag, 0, 0), api.OK)
	if s.Free() != 4 || len(s.Rotten()) != 3 {
		t.Error("behind Drop", s.Free(), s.Rotten())
	}
	want(t, "laid anew", s.Add("k", m.Tag, syms[0]), api.OK)
	if got := showSyms(s.Syms("k", m.Tag)); got != showSyms(syms) {
		t.Error("Syms", got)
	}
}

func TestRottenAreSorted(t *testing.T) {
	value := strings.Repeat("v", 40)
	d := newDisk(t, 60, -1)
	s := open(t, d)
	r := rand.New(rand.NewSource(1))
	var spots []api.Spot
	for _, key := range []string{"", "b", "a\xff", "a", "B"} {
		for _, at := range []api.Tag{tag(2, 1), tag(10, 0), tag(2, 0)} {
			for _, block := range []int{1, 0} {
				for _, esi := range []int{10, 9} {
					spots = append(spots, api.Spot{Key: key + "k", Tag: at, Block: block, Esi: esi})
				}
			}
		}
	}
	r.Shuffle(len(spots), func(i, j int) { spots[i], spots[j] = spots[j], spots[i] })
	for slot, spot := range spots {
		want(t, "Stage", s.Stage(spot.Key, metaOf(spot.Tag.N, spot.Tag.Client, 1, value), symsOf(value, 1, spot.Block, spot.Esi)...), api.OK)
		want(t, "Rot", d.Rot(slot, 0), api.OK)
	}
	slices.SortFunc(spots, func(a, b api.Spot) int {
		if a.Key != b.Key {
			return strings.Compare(a.Key, b.Key)
		}
		if a.Tag != b.Tag {
			return map[bool]int{true: -1, false: 1}[meta.Earlier(a.Tag, b.Tag)]
		}
		return (a.Block-b.Block)*100 + a.Esi - b.Esi
	})
	if got := s.Rotten(); !slices.Equal(got, spots) {
		t.Error("Rotten", got)
	}
}

// logOf is a disk whose log has these records.
func logOf(t *testing.T, slots int, rs ...api.Record) *disk.Disk {
	t.Helper()
	d := newDisk(t, slots, -1)
	for _, r := range rs {
		b, err := meta.Encode(r)
		if err != api.OK {
			t.Fatal("this record can't be encoded", r)
		}
		f, _ := frame.Pack(b)
		d.Append(f...)
	}
	return d
}

func TestOpenOfOtherLogs(t *testing.T) {
	m, later := metaOf(5, 0, 1, strings.Repeat("v", 40)), metaOf(6, 0, 1, "later")
	place := func(block, esi, slot int) api.Place {
		return api.Place{Block: block, Esi: esi, Slot: slot, Sum: digest(nil)}
	}
	stage := func(m api.Meta, ps ...api.Place) api.Record {
		return api.Record{Kind: api.RecStage, Key: "k", Meta: m, Places: ps}
	}
	add := func(at api.Tag, ps ...api.Place) api.Record {
		return api.Record{Kind: api.RecAdd, Key: "k", Meta: api.Meta{Tag: at}, Places: ps}
	}
	drop := func(at api.Tag, ps ...api.Place) api.Record {
		return api.Record{Kind: api.RecDrop, Key: "k", Meta: api.Meta{Tag: at}, Places: ps}
	}
	commit := func(m api.Meta) api.Record { return api.Record{Kind: api.RecCommit, Key: "k", Meta: m} }
	other := stage(metaOf(5, 0, 1, "other"), place(0, 0, 0))
	other.Key = "j"
	for i, c := range []struct {
		log  []api.Record
		free int // -1: ErrLog
	}{
		{nil, 4},
		{[]api.Record{stage(m, place(0, 0, 3))}, 3},
		{[]api.Record{stage(m, place(0, 0, 4))}, -1},
		{[]api.Record{stage(m, place(0, 0, 511))}, -1},
		{[]api.Record{stage(m, place(0, 0, 1), place(0, 1, 1))}, -1},
		{[]api.Record{stage(m, place(0, 0, 1), place(0, 0, 2))}, 3},
		{[]api.Record{stage(m, place(0, 0, 1), place(0, 0, 1))}, 3},
		{[]api.Record{stage(m, place(0, 0, 1)), stage(m, place(0, 0, 9))}, 3},
		{[]api.Record{stage(m, place(0, 0, 1)), stage(m, place(0, 1, 1))}, -1},
		{[]api.Record{stage(m, place(0, 0, 0)), other}, -1},
		{[]api.Record{stage(m, place(0, 0, 1)), other}, 2},
		{[]api.Record{stage(m, place(900, 0, 1))}, 3}, // a block that the value hasn't
		{[]api.Record{commit(later), stage(m, place(0, 0, 9))}, 4},
		{[]api.Record{commit(later), stage(later, place(0, 0, 9))}, 4},
		{[]api.Record{commit(m), stage(m, place(0, 0, 1)), stage(later, place(0, 0, 1))}, 3},
		{[]api.Record{stage(m, place(0, 0, 1)), commit(later), stage(metaOf(7, 0, 1, "v"), place(0, 0, 1))}, 3},
		{[]api.Record{stage(m, place(0, 0, 1)), commit(m), stage(later, place(0, 0, 1))}, -1},
		{[]api.Record{add(m.Tag, place(0, 0, 9))}, 4},
		{[]api.Record{stage(m), add(m.Tag, place(0, 0, 2), place(0, 1, 3))}, 2},
		{[]api.Record{stage(m), add(m.Tag, place(0, 0, 9))}, -1},
		{[]api.Record{stage(m), add(m.Tag, place(0, 0, 2), place(1, 1, 2))}, -1},
		{[]api.Record{stage(m), add(later.Tag, place(0, 0, 9))}, 4},
		{[]api.Record{commit(m), add(m.Tag, place(0, 0, 2))}, 3},
		{[]api.Record{commit(m), add(m.Tag, place(0, 0, 9))}, -1},
		{[]api.Record{commit(deadAt(5, 0)), add(m.Tag, place(0, 0, 9))}, 4},
		{[]api.Record{commit(later), add(m.Tag, place(0, 0, 9))}, 4},
		{[]api.Record{stage(m, place(0, 0, 1)), commit(deadAt(5, 0))}, 4},
		{[]api.Record{stage(m, place(0, 0, 1)), commit(metaOf(5, 0, 1, "other"))}, 3},
		{[]api.Record{stage(m, place(0, 0, 1), place(1, 0, 2)), drop(m.Tag, api.Place{}, api.Place{Esi: 7}, api.Place{})}, 3},
		{[]api.Record{stage(m, place(0, 0, 1)), drop(later.Tag, api.Place{})}, 3},
		{[]api.Record{stage(m, place(0, 0, 1)), drop(m.Tag, api.Place{}), add(m.Tag, place(0, 1, 1))}, 3},
		{[]api.Record{drop(m.Tag, api.Place{})}, 4},
		{[]api.Record{stage(m, place(0, 0, 1)), stage(metaOf(5, 0, 1, "other"), place(0, 1, 2))}, 2},
	} {
		d := logOf(t, 4, c.log...)
		s, err := store.Open(d)
		if c.free < 0 && (err != api.ErrLog || s != nil) || c.free >= 0 && (err != api.OK || s.Free() != c.free) {
			t.Errorf("case %d: %v", i, err)
		}
	}
	s := open(t, logOf(t, 4, stage(m), stage(metaOf(5, 0, 1, "other")), stage(later)))
	if got := s.Staged("k"); len(got) != 2 || showMeta(got[0]) != showMeta(m) || showMeta(got[1]) != showMeta(later) {
		t.Error("the first meta of a tag stays", got)
	}
	for _, elder := range []api.Meta{m, deadAt(5, 1), metaOf(6, 0, 1, "other"), deadAt(6, 0)} {
		s := open(t, logOf(t, 4, stage(later, place(0, 0, 1)), commit(later), commit(elder), stage(metaOf(7, 0, 1, "v"))))
		if got, _ := s.Meta("k"); showMeta(got) != showMeta(later) || s.Free() != 3 || len(s.Staged("k")) != 1 {
			t.Error("a commit that isn't later changes nothing", show(s, "k"))
		}
	}
	d := newDisk(t, 4, -1)
	f, _ := frame.Pack([]byte("no record"))
	d.Append(f...)
	if s, err := store.Open(d); s != nil || err != api.ErrLog {
		t.Error("a frame that is no record:", err)
	}
	d.Append(1, 2, 3)
	before := string(d.Log())
	if s, err := store.Open(d); s != nil || err != api.ErrLog || string(d.Log()) != before {
		t.Error("a frame that is no record, and a torn end:", err)
	}
}

func TestOpenOfATornLog(t *testing.T) {
	m := metaOf(5, 0, 1, "value")
	whole := logOf(t, 4, api.Record{Kind: api.RecCommit, Key: "k", Meta: m}).Log()
	for n := 0; n <= len(whole); n++ {
		for power := 0; power < 4; power++ {
			d := newDisk(t, 4, -1)
			d.Append(whole...)
			d.Append(whole[:n]...)
			d = d.Left(api.Fate{Keep: 9999}, power)
			s, err := store.Open(d)
			torn := n > 0 && n < len(whole)
			if torn && power < 2 {
				if s != nil || err != api.ErrDown {
					t.Errorf("%d bytes behind, the power %d: %v", n, power, err)
				}
				continue
			}
			if err != api.OK || !slices.Equal(s.Keys(), []string{"k"}) {
				t.Fatalf("%d bytes behind, the power %d: %v", n, power, err)
			}
			length, left := len(whole), power
			if n == len(whole) {
				length *= 2
			}
			if torn {
				left -= 2
			}
			if got := d.Left(api.Fate{}, 0).Log(); len(got) != length || !bytes.Equal(d.Log(), got) {
				t.Errorf("%d bytes behind: the log has %d", n, len(got))
			}
			if got := power - used(d, power); got != left {
				t.Errorf("%d bytes behind: the power %d, not %d", n, got, left)
			}
		}
	}
	// What was laid and isn't safe may be lost: then the log is as torn as it was.
	d := newDisk(t, 4, -1)
	d.Append(append(bytes.Clone(whole), 90, 0)...)
	d = d.Left(api.Fate{Keep: 9999}, 1)
	if s, err := store.Open(d); s != nil || err != api.ErrDown {
		t.Error("Lay without SyncLog:", err)
	}
	if !slices.Equal(open(t, d.Left(api.Fate{}, -1)).Keys(), []string{"k"}) || !slices.Equal(open(t, d.Left(api.Fate{Reset: true}, -1)).Keys(), []string{"k"}) {
		t.Error("opened anew")
	}
}

func TestKeysRise(t *testing.T) {
	s := open(t, newDisk(t, 1, -1))
	keys := []string{"b", "a", "\xff", "aa", "\x00", "B", strings.Repeat("k", 32)}
	for i, key := range keys {
		if i%2 == 0 {
			want(t, "Commit", s.Commit(key, deadAt(1, 0)), api.OK)
		} else {
			want(t, "Commit", s.Commit(key, metaOf(1, 0, 1, "v")), api.OK)
		}
		want(t, "Stage", s.Stage("only staged", metaOf(i+1, 0, 1, "v")), api.OK)
	}
	slices.Sort(keys)
	if got := s.Keys(); !slices.Equal(got, keys) {
		t.Errorf("%q", got)
	}
}

// TestManyChangesAndLosses holds a store against what its own log tells when it is opened anew, whenever the power goes.
func TestManyChangesAndLosses(t *testing.T) {
	r := rand.New(rand.NewSource(7))
	keys := []string{"a", "b"}
	values := []string{"abcdefgh", strings.Repeat("xyz", 14)}
	done := map[int]int{}
	for round := 0; round < 150; round++ {
		d := newDisk(t, 12, -1)
		s := open(t, d)
		for range 12 {
			key, value := keys[r.Intn(2)], values[r.Intn(2)]
			m := metaOf(1+r.Intn(5), r.Intn(2), 1, value)
			if r.Intn(6) == 0 {
				m = deadAt(m.Tag.N, m.Tag.Client)
			}
			var syms []api.Sym
			for range r.Intn(5) {
				syms = append(syms, symsOf(value, 1, r.Intn(len(value)/33+1), r.Intn(6))...)
			}
			power := r.Intn(9)
			f := api.Fate{Keep: r.Intn(300), Slots: []int{r.Intn(3), r.Intn(3)}}
			before := show(s, keys...)
			live := s
			left := d.Left(api.Fate{}, power) // the same store, with little power
			weak := open(t, left)
			var did []api.Errno
			change := r.Intn(6)
			if stored, there := s.Meta(key); there && r.Intn(2) == 0 {
				m.Tag = stored.Tag
			}
			for _, x := range []*store.Store{live, weak} {
				var err api.Errno
				switch change {
				case 0, 1:
					err = x.Stage(key, m, syms...)
				case 2:
					err = x.Commit(key, m)
				case 3, 4:
					err = x.Add(key, m.Tag, syms...)
				default:
					if all := x.Syms(key, m.Tag); len(all) > 0 {
						err = x.Drop(key, m.Tag, all[0].Block, all[0].Esi)
					}
				}
				if did = append(did, err); err == api.OK {
					done[change]++
				}
			}
			after := show(live, keys...)
			if did[0] == did[1] && show(weak, keys...) != after {
				t.Fatalf("two stores of one log: %v", did)
			}
			if did[0] != did[1] && did[1] != api.ErrDown {
				t.Fatalf("two stores of one log: %v", did)
			}
			got := show(open(t, left.Left(f, -1)), keys...)
			if got != before && got != after || did[1] == api.OK && got != after {
				t.Fatalf("behind the loss it is neither\n%s nor\n%s but\n%s", before, after, got)
			}
			if got := show(open(t, d.Left(api.Fate{}, -1)), keys...); got != after {
				t.Fatalf("opened anew:\n%s, not\n%s", got, after)
			}
		}
	}
	for change := range 6 {
		if done[change] < 50 {
			t.Error("the sweep is one-sided", done)
		}
	}
}

// apart: does no list share memory with another, spare room included?
func apart(lists ...[]byte) bool {
	for i, a := range lists {
		for _, b := range lists[:i] {
			x, y := uintptr(unsafe.Pointer(unsafe.SliceData(a))), uintptr(unsafe.Pointer(unsafe.SliceData(b)))
			if x < y+uintptr(cap(b)) && y < x+uintptr(cap(a)) {
				return false
			}
		}
	}
	return true
}

func TestListsAreLeftAndAnswersAreNew(t *testing.T) {
	value := "abcdefgh"
	m, end := metaOf(2, 0, 4, value), metaOf(1, 0, 4, value)
	syms := symsOf(value, 4, 0, 0, 1, 5)
	s := open(t, newDisk(t, 9, -1))
	want(t, "Commit", s.Commit("k", end), api.OK)
	want(t, "Add", s.Add("k", end.Tag, syms[:2]...), api.OK)
	want(t, "Stage", s.Stage("k", m, syms[:1]...), api.OK)
	if showMeta(m) != showMeta(metaOf(2, 0, 4, value)) || showSyms(syms) != showSyms(symsOf(value, 4, 0, 0, 1, 5)) {
		t.Error("what was handed in has changed", m, syms)
	}
	before := show(s, "k")
	lists := [][]byte{m.Sum, end.Sum}
	for _, sym := range syms {
		lists = append(lists, sym.Data)
	}
	for range 2 {
		got, _ := s.Meta("k")
		lists = append(lists, got.Sum, s.Staged("k")[0].Sum)
		for _, sym := range append(s.Syms("k", end.Tag), s.Syms("k", m.Tag)...) {
			lists = append(lists, sym.Data)
		}
	}
	if !apart(lists...) {
		t.Error("an answer shares memory")
	}
	for _, list := range lists {
		clear(list[:cap(list)])
	}
	s.Keys()[0] = "?"
	if got := show(s, "k"); got != before {
		t.Error("the store has kept what was handed in or answered:", got)
	}
}

func TestTwoStoresHaveNothingInCommon(t *testing.T) {
	one, two := open(t, newDisk(t, 3, -1)), open(t, newDisk(t, 3, -1))
	want(t, "Commit", one.Commit("k", metaOf(1, 0, 1, "v")), api.OK)
	want(t, "Add", one.Add("k", tag(1, 0), symsOf("v", 1, 0, 0)...), api.OK)
	if len(two.Keys()) != 0 || two.Free() != 3 || one.Free() != 2 {
		t.Error(show(two, "k"))
	}
}

func TestNoDisk(t *testing.T) {
	if s, err := store.Open(nil); s != nil || err == api.OK {
		t.Error("Open of no disk:", err)
	}
}
