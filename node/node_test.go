package node_test

import (
	"bytes"
	"fmt"
	"math"
	"slices"
	"strings"
	"testing"
	"unsafe"

	"rill/api"
	"rill/chunk"
	"rill/disk"
	"rill/meta"
	"rill/node"
	"rill/store"
)

func five() api.Config {
	return api.Config{Nodes: 5, Write: 4, Read: 3, Clients: 2, T: 4, Slots: 100}
}

// server is a node with what lies behind it.
type server struct {
	*node.Node
	disk  *disk.Disk
	store *store.Store
}

// serve is the node 2 of five, on a disk of that power.
func serve(t *testing.T, slots, power int) server {
	t.Helper()
	d, _ := disk.New(slots, power)
	s, err := store.Open(d)
	if err != api.OK {
		t.Fatal(err)
	}
	n, err := node.New(five(), 2, s)
	if err != api.OK || n == nil {
		t.Fatal(err)
	}
	return server{n, d, s}
}

func metaOf(n int, value string) api.Meta {
	m, _ := meta.Of(api.Tag{N: n, Client: 1}, 4, []byte(value))
	return m
}

func deadAt(n int) api.Meta {
	m, _ := meta.End(api.Tag{N: n, Client: 1})
	return m
}

func symsOf(value string, esis ...int) []api.Sym {
	syms, _ := chunk.Symbols([]byte(value), 4, 0, esis...)
	return syms
}

func question(kind int, key string) api.Msg {
	return api.Msg{Kind: kind, From: 9, To: 2, Op: 7, Key: key}
}

func with(kind int, key string, m api.Meta, syms ...api.Sym) api.Msg {
	q := question(kind, key)
	q.Meta, q.Syms = m, syms
	return q
}

// show tells a message: nil lists and empty ones are the same.
func show(m api.Msg) string {
	text := fmt.Sprintf("%d %d-%d %d %d %q %v %x", m.Kind, m.From, m.To, m.Op, m.Code, m.Key, m.Meta.Tag, slices.Concat([]byte{byte(m.Meta.Size), byte(m.Meta.T)}, m.Meta.Sum))
	for _, s := range m.Syms {
		text += fmt.Sprintf(" (%d %d %x)", s.Block, s.Esi, s.Data)
	}
	for _, i := range m.Items {
		text += fmt.Sprintf(" [%q %v %v %d %d %x]", i.Key, i.Meta.Tag, i.Meta.Dead, i.Meta.Size, i.Meta.T, i.Meta.Sum)
	}
	return text + fmt.Sprint(m.Meta.Dead)
}

func answers(t *testing.T, n server, q, want api.Msg) {
	t.Helper()
	want.From, want.To, want.Op, want.Key = 2, q.From, q.Op, q.Key
	if got, ok := n.Take(q); !ok || show(got) != show(want) {
		t.Errorf("%s: %s, %v, not %s", show(q), show(got), ok, show(want))
	}
	if n.Down() {
		t.Error("the node is down")
	}
}

func silent(t *testing.T, n server, q api.Msg) {
	t.Helper()
	if got, ok := n.Take(q); ok || show(got) != show(api.Msg{}) {
		t.Errorf("%s: %s, %v", show(q), show(got), ok)
	}
}

func TestNew(t *testing.T) {
	d, _ := disk.New(3, -1)
	s, _ := store.Open(d)
	wrong := five()
	wrong.Read = 1
	if n, err := node.New(wrong, -1, s); n != nil || err != api.ErrConfig {
		t.Error("a wrong config:", err)
	}
	for _, id := range []int{-1, 5, 8, math.MinInt64, math.MaxInt64} {
		if n, err := node.New(five(), id, s); n != nil || err != api.ErrNode {
			t.Errorf("the node %d: %v", id, err)
		}
	}
	for id := range 5 {
		n, err := node.New(five(), id, s)
		if n == nil || err != api.OK || n.Down() {
			t.Fatalf("the node %d: %v", id, err)
		}
		q := question(api.MsgAsk, "k")
		for q.To = 0; q.To < 12; q.To++ {
			if got, ok := n.Take(q); ok != (q.To == id) || ok && got.From != id {
				t.Errorf("the node %d takes what is for %d: %s", id, q.To, show(got))
			}
		}
	}
}

func TestAsk(t *testing.T) {
	n := serve(t, 9, -1)
	answers(t, n, question(api.MsgAsk, "k"), api.Msg{Kind: api.MsgTold})
	answers(t, n, question(api.MsgAsk, ""), api.Msg{Kind: api.MsgTold})
	n.store.Stage("k", metaOf(3, "staged"))
	answers(t, n, question(api.MsgAsk, "k"), api.Msg{Kind: api.MsgTold})
	n.store.Commit("k", metaOf(2, "value"))
	answers(t, n, question(api.MsgAsk, "k"), api.Msg{Kind: api.MsgTold, Meta: metaOf(2, "value")})
	answers(t, n, with(api.MsgAsk, "k", metaOf(9, "x"), symsOf("x", 0)...), api.Msg{Kind: api.MsgTold, Meta: metaOf(2, "value")})
	n.store.Commit("k", deadAt(4))
	answers(t, n, question(api.MsgAsk, "k"), api.Msg{Kind: api.MsgTold, Meta: deadAt(4)})
	answers(t, n, question(api.MsgAsk, "j"), api.Msg{Kind: api.MsgTold})
}

func TestStage(t *testing.T) {
	value := "a value of 23 bytes ..."
	m, syms := metaOf(3, value), symsOf(value, 2, 7, 12)
	n := serve(t, 4, -1)
	staged := func(code api.Errno) api.Msg { return api.Msg{Kind: api.MsgStaged, Code: int(code)} }
	answers(t, n, with(api.MsgStage, "k", m, syms...), staged(api.OK))
	if got := n.store.Syms("k", m.Tag); len(got) != 3 || len(n.store.Staged("k")) != 1 || !bytes.Equal(got[2].Data, syms[2].Data) {
		t.Error("it isn't staged", got)
	}
	answers(t, n, with(api.MsgStage, "k", m, syms...), staged(api.OK))
	answers(t, n, with(api.MsgStage, "k", m, symsOf(value, 3, 4)...), staged(api.ErrFull))
	answers(t, n, with(api.MsgStage, "k", metaOf(3, "another value")), staged(api.ErrClash))
	answers(t, n, with(api.MsgStage, "k", deadAt(3)), staged(api.ErrMeta))
	answers(t, n, with(api.MsgStage, "k", api.Meta{}), staged(api.ErrMeta))
	answers(t, n, with(api.MsgStage, "", m), staged(api.ErrKey))
	answers(t, n, with(api.MsgStage, "k", m, api.Sym{Block: 1, Data: []byte("data")}), staged(api.ErrBlock))
	answers(t, n, with(api.MsgStage, "k", m, api.Sym{Data: []byte("dat")}), staged(api.ErrLength))
	n.store.Commit("k", metaOf(5, "later"))
	answers(t, n, with(api.MsgStage, "k", m, syms...), staged(api.OK))
	answers(t, n, with(api.MsgStage, "k", metaOf(5, "later")), staged(api.OK))
	if len(n.store.Staged("k")) != 0 || n.store.Free() != 4 {
		t.Error("what is stale was staged")
	}
}

func TestCommit(t *testing.T) {
	n := serve(t, 4, -1)
	done := func(code api.Errno) api.Msg { return api.Msg{Kind: api.MsgDone, Code: int(code)} }
	answers(t, n, with(api.MsgCommit, "k", metaOf(3, "value")), done(api.OK))
	answers(t, n, with(api.MsgCommit, "k", metaOf(3, "value")), done(api.OK))
	answers(t, n, with(api.MsgCommit, "k", metaOf(2, "elder")), done(api.OK))
	if m, ok := n.store.Meta("k"); !ok || m.Tag.N != 3 {
		t.Error("it isn't committed", m)
	}
	n.store.Stage("k", metaOf(4, "staged"))
	answers(t, n, with(api.MsgCommit, "k", metaOf(4, "another")), done(api.ErrClash))
	answers(t, n, with(api.MsgCommit, "k", api.Meta{}), done(api.ErrMeta))
	answers(t, n, with(api.MsgCommit, "", metaOf(4, "staged")), done(api.ErrKey))
	answers(t, n, with(api.MsgCommit, "k", deadAt(5)), done(api.OK))
	if m, _ := n.store.Meta("k"); !m.Dead || len(n.store.Staged("k")) != 0 {
		t.Error("the end isn't committed", m)
	}
	// What was answered is there behind the loss of the power.
	again, err := store.Open(n.disk.Left(api.Fate{}, -1))
	if err != api.OK {
		t.Fatal(err)
	}
	if m, ok := again.Meta("k"); !ok || !m.Dead || m.Tag.N != 5 {
		t.Error("opened anew", m, ok)
	}
}

func TestFetch(t *testing.T) {
	value := "a value of 23 bytes ..."
	n := serve(t, 9, -1)
	answers(t, n, with(api.MsgFetch, "k", metaOf(3, value)), api.Msg{Kind: api.MsgSyms})
	n.store.Stage("k", metaOf(3, value), symsOf(value, 7, 2)...)
	answers(t, n, with(api.MsgFetch, "k", metaOf(3, value)), api.Msg{Kind: api.MsgSyms, Syms: symsOf(value, 2, 7)})
	n.store.Commit("k", metaOf(3, value))
	n.store.Stage("k", metaOf(4, "other"), symsOf("other", 1)...)
	answers(t, n, with(api.MsgFetch, "k", metaOf(3, value)), api.Msg{Kind: api.MsgSyms, Meta: metaOf(3, value), Syms: symsOf(value, 2, 7)})
	// It is the tag that is asked for.
	answers(t, n, with(api.MsgFetch, "k", metaOf(4, "whatever")), api.Msg{Kind: api.MsgSyms, Meta: metaOf(3, value), Syms: symsOf("other", 1)})
	answers(t, n, with(api.MsgFetch, "k", deadAt(5)), api.Msg{Kind: api.MsgSyms, Meta: metaOf(3, value)})
	answers(t, n, question(api.MsgFetch, "k"), api.Msg{Kind: api.MsgSyms, Meta: metaOf(3, value)})
	answers(t, n, with(api.MsgFetch, "", metaOf(3, value)), api.Msg{Kind: api.MsgSyms})
	n.disk.Rot(0, 3) // of the symbol 7
	answers(t, n, with(api.MsgFetch, "k", metaOf(3, value)), api.Msg{Kind: api.MsgSyms, Meta: metaOf(3, value), Syms: symsOf(value, 2)})
	n.store.Commit("k", deadAt(5))
	answers(t, n, with(api.MsgFetch, "k", metaOf(3, value)), api.Msg{Kind: api.MsgSyms, Meta: deadAt(5)})
}

func TestList(t *testing.T) {
	n := serve(t, 9, -1)
	answers(t, n, question(api.MsgList, ""), api.Msg{Kind: api.MsgKeys})
	var items []api.Item
	for i := range 105 {
		key := fmt.Sprintf("%03d", (i*37)%105)
		m := metaOf(1, key)
		if i%4 == 0 {
			m = deadAt(2)
		}
		n.store.Commit(key, m)
		n.store.Stage("only staged", metaOf(i+1, "x"))
		items = append(items, api.Item{Key: key, Meta: m})
		slices.SortFunc(items, func(a, b api.Item) int { return strings.Compare(a.Key, b.Key) })
		answers(t, n, question(api.MsgList, "k"), api.Msg{Kind: api.MsgKeys, Items: items[:min(i+1, 100)]})
	}
}

func TestWhatIsNoQuestionForIt(t *testing.T) {
	n := serve(t, 9, -1)
	n.store.Commit("k", metaOf(3, "value"))
	log := n.disk.Log()
	for _, change := range []func(*api.Msg){
		func(m *api.Msg) { m.To = 1 },
		func(m *api.Msg) { m.To = 3 },
		func(m *api.Msg) { m.To = -1 },
		func(m *api.Msg) { m.To = 10 },
		func(m *api.Msg) { m.From = 7 },
		func(m *api.Msg) { m.From = 10 },
		func(m *api.Msg) { m.From = 11 },
		func(m *api.Msg) { m.From = 2 },
		func(m *api.Msg) { m.From = 12 },
		func(m *api.Msg) { m.From = math.MinInt64 },
		func(m *api.Msg) { m.From = math.MaxInt64 },
		func(m *api.Msg) { m.Op = -1 },
		func(m *api.Msg) { m.Code = 1 << 31 },
		func(m *api.Msg) { m.Key = strings.Repeat("k", 33) },
		func(m *api.Msg) { m.Meta = api.Meta{Size: 1} },
		func(m *api.Msg) { m.Syms = []api.Sym{{Block: 1024}} },
		func(m *api.Msg) { m.Items = []api.Item{{}} },
		func(m *api.Msg) { m.Kind = 0 },
		func(m *api.Msg) { m.Kind = 11 },
		func(m *api.Msg) { m.Kind = math.MinInt64 },
		func(m *api.Msg) { m.Kind = api.MsgTold },
		func(m *api.Msg) { m.Kind = api.MsgStaged },
		func(m *api.Msg) { m.Kind = api.MsgDone },
		func(m *api.Msg) { m.Kind = api.MsgSyms },
		func(m *api.Msg) { m.Kind = api.MsgKeys },
	} {
		for _, kind := range []int{api.MsgAsk, api.MsgStage, api.MsgCommit, api.MsgFetch, api.MsgList} {
			q := with(kind, "k", metaOf(4, "value"))
			change(&q)
			silent(t, n, q)
		}
	}
	if n.Down() || !bytes.Equal(n.disk.Log(), log) {
		t.Error("these have changed the node")
	}
	for from := 8; from <= 9; from++ {
		q := question(api.MsgAsk, "k")
		q.From, q.Op, q.Code = from, from*100, 5
		answers(t, n, q, api.Msg{Kind: api.MsgTold, Meta: metaOf(3, "value")})
	}
}

func TestDown(t *testing.T) {
	value := "a value of 23 bytes ..."
	for _, c := range []struct {
		q     api.Msg
		power int // what it takes
	}{
		{with(api.MsgStage, "k", metaOf(3, value), symsOf(value, 2, 7)...), 5},
		{with(api.MsgStage, "k", metaOf(3, value)), 2},
		{with(api.MsgCommit, "k", metaOf(3, value)), 2},
	} {
		for power := 0; power <= c.power; power++ {
			n := serve(t, 9, power)
			if power == c.power {
				if _, ok := n.Take(c.q); !ok || n.Down() {
					t.Errorf("%s with the power %d", show(c.q), power)
				}
				continue
			}
			answers(t, n, question(api.MsgAsk, "k"), api.Msg{Kind: api.MsgTold})
			silent(t, n, c.q)
			if !n.Down() {
				t.Errorf("%s with the power %d: the node isn't down", show(c.q), power)
			}
			log := n.disk.Log()
			for _, kind := range []int{api.MsgAsk, api.MsgStage, api.MsgCommit, api.MsgFetch, api.MsgList} {
				silent(t, n, with(kind, "k", metaOf(4, value)))
			}
			if !n.Down() || !bytes.Equal(n.disk.Log(), log) {
				t.Error("a node that is down has done something")
			}
		}
	}
	// What needs no call of the disk is answered without power.
	n := serve(t, 9, 2)
	n.store.Commit("k", metaOf(3, value))
	answers(t, n, with(api.MsgCommit, "k", metaOf(3, value)), api.Msg{Kind: api.MsgDone})
	answers(t, n, with(api.MsgStage, "k", metaOf(3, value)), api.Msg{Kind: api.MsgStaged})
	answers(t, n, with(api.MsgStage, "", metaOf(3, value)), api.Msg{Kind: api.MsgStaged, Code: int(api.ErrKey)})
}

// apart: does no list share memory with another, spare room included?
func apart(lists ...[]byte) bool {
	for i, a := range lists {
		for _, b := range lists[:i] {
			x, y := uintptr(unsafe.Pointer(unsafe.SliceData(a))), uintptr(unsafe.Pointer(unsafe.SliceData(b)))
			if x < y+uintptr(cap(b)) && y < x+uintptr(cap(a)) {
				return false
			}
		}
	}
	return true
}

func TestListsAreLeftAndAnswersAreNew(t *testing.T) {
	value := "a value of 23 bytes ..."
	n := serve(t, 9, -1)
	stage, commit := with(api.MsgStage, "k", metaOf(3, value), symsOf(value, 2, 7)...), with(api.MsgCommit, "k", metaOf(3, value))
	before := show(stage) + show(commit)
	n.Take(stage)
	n.Take(commit)
	if show(stage)+show(commit) != before {
		t.Error("what was handed in has changed")
	}
	lists := [][]byte{stage.Meta.Sum, commit.Meta.Sum, stage.Syms[0].Data, stage.Syms[1].Data}
	want := []string{}
	for round := range 2 {
		for i, q := range []api.Msg{question(api.MsgAsk, "k"), with(api.MsgFetch, "k", metaOf(3, value)), question(api.MsgList, "k")} {
			got, _ := n.Take(q)
			if round == 0 {
				want = append(want, show(got))
			} else if show(got) != want[i] {
				t.Error("the node has kept what was handed in or answered:", show(got))
			}
			lists = append(lists, got.Meta.Sum)
			for _, s := range got.Syms {
				lists = append(lists, s.Data)
			}
			for _, item := range got.Items {
				lists = append(lists, item.Meta.Sum)
			}
		}
		if round == 0 {
			if !apart(lists...) {
				t.Error("an answer shares memory")
			}
			for _, list := range lists {
				clear(list[:cap(list)])
			}
		}
	}
}

func TestNoStore(t *testing.T) {
	n, _ := node.New(five(), 2, nil)
	if n == nil {
		return
	}
	for kind := api.MsgAsk; kind <= api.MsgKeys; kind++ {
		silent(t, server{Node: n}, with(kind, "k", metaOf(1, "value")))
	}
}
