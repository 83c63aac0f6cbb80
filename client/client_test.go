package client_test

import (
	"fmt"
	"math"
	"slices"
	"strings"
	"testing"
	"unsafe"

	"rill/api"
	"rill/chunk"
	"rill/client"
	"rill/meta"
	"rill/msg"
	"rill/place"
)

const last = 1<<31 - 1

func three() api.Config {
	return api.Config{Nodes: 3, Write: 2, Read: 2, Clients: 2, T: 4, Slots: 100}
}

func five() api.Config {
	return api.Config{Nodes: 5, Write: 4, Read: 3, Clients: 4, T: 4, Slots: 100}
}

func fresh(t *testing.T, c api.Config, id int) *client.Client {
	t.Helper()
	x, err := client.New(c, id)
	if err != api.OK || x == nil {
		t.Fatal(err)
	}
	return x
}

func tag(n, client int) api.Tag { return api.Tag{N: n, Client: client} }

func metaOf(n, client, t int, value string) api.Meta {
	m, err := meta.Of(tag(n, client), t, []byte(value))
	if err != api.OK {
		panic(err)
	}
	return m
}

func deadAt(n, client int) api.Meta {
	m, _ := meta.End(tag(n, client))
	return m
}

func showMeta(m api.Meta) string {
	return fmt.Sprintf("%d/%d %d %d %v %.4x", m.Tag.N, m.Tag.Client, m.Size, m.T, m.Dead, m.Sum)
}

func showMsg(m api.Msg) string {
	text := fmt.Sprintf("%s %d-%d op %d code %d %q %s", msg.Names(m.Kind), m.From, m.To, m.Op, m.Code, m.Key, showMeta(m.Meta))
	for _, s := range m.Syms {
		text += fmt.Sprintf(" (%d %d %x)", s.Block, s.Esi, s.Data)
	}
	return text + fmt.Sprint(" items ", len(m.Items))
}

func showResult(r api.Result) string {
	return fmt.Sprintf("op %d do %d %q value %q tag %v code %d found %v keys %q", r.Op, r.Do, r.Key, r.Value, r.Tag, r.Code, r.Found, slices.Clone(r.Keys))
}

// questions are what a client of that number asks the nodes.
func questions(kind, client, op int, key string, m api.Meta, nodes ...int) []api.Msg {
	var all []api.Msg
	for _, node := range nodes {
		all = append(all, api.Msg{Kind: kind, From: 8 + client, To: node, Op: op, Key: key, Meta: m})
	}
	return all
}

func asked(t *testing.T, got []api.Msg, want ...api.Msg) {
	t.Helper()
	if !slices.EqualFunc(got, want, func(a, b api.Msg) bool { return showMsg(a) == showMsg(b) }) {
		t.Errorf("%d messages, not %d", len(got), len(want))
		for _, m := range got {
			t.Log("got", showMsg(m))
		}
		for _, m := range want {
			t.Log("not", showMsg(m))
		}
	}
}

// begun: the messages that a call has answered, which has no error.
func begun(t *testing.T) func([]api.Msg, api.Errno) []api.Msg {
	return func(ms []api.Msg, err api.Errno) []api.Msg {
		t.Helper()
		if err != api.OK {
			t.Error(err)
		}
		return ms
	}
}

// answer is one to the question of that kind.
func answer(kind, client, op, from int) api.Msg {
	return api.Msg{Kind: kind, From: from, To: 8 + client, Op: op}
}

func told(client, op, from int, m api.Meta) api.Msg {
	a := answer(api.MsgTold, client, op, from)
	a.Meta = m
	return a
}

func coded(kind, client, op, from int, code api.Errno) api.Msg {
	a := answer(kind, client, op, from)
	a.Code = int(code)
	return a
}

func syms(client, op, from int, m api.Meta, list ...api.Sym) api.Msg {
	a := answer(api.MsgSyms, client, op, from)
	a.Meta, a.Syms = m, list
	return a
}

func nothing(t *testing.T, x *client.Client, ms ...api.Msg) {
	t.Helper()
	for _, m := range ms {
		if got := x.Take(m); len(got) != 0 {
			t.Errorf("%s: %d messages", showMsg(m), len(got))
		}
	}
}

func ended(t *testing.T, x *client.Client, want api.Result) {
	t.Helper()
	if x.Busy() {
		t.Error("the client is busy")
	}
	got, ok := x.Result()
	if !ok || showResult(got) != showResult(want) {
		t.Errorf("%s, %v, not %s", showResult(got), ok, showResult(want))
	}
	idle(t, x)
}

// idle: it does nothing, and has no result.
func idle(t *testing.T, x *client.Client) {
	t.Helper()
	if got, ok := x.Result(); ok || showResult(got) != showResult(api.Result{}) {
		t.Errorf("a result: %s, %v", showResult(got), ok)
	}
	if x.Busy() || len(x.Again()) != 0 {
		t.Error("the client does something")
	}
}

// busy: it does something, without a result.
func busy(t *testing.T, x *client.Client) {
	t.Helper()
	if got, ok := x.Result(); ok || showResult(got) != showResult(api.Result{}) || !x.Busy() {
		t.Errorf("not busy: %s, %v", showResult(got), ok)
	}
}

// staged are the messages of the phase Stage.
func staged(c api.Config, client, op int, key string, m api.Meta, value string) []api.Msg {
	deal, _ := place.Deal(c, []byte(value))
	all := questions(api.MsgStage, client, op, key, m, 0, 1, 2, 3, 4, 5, 6, 7)[:c.Nodes]
	for node := range all {
		all[node].Syms = deal[node]
	}
	return all
}

func TestNew(t *testing.T) {
	wrong := three()
	wrong.T = 0
	if x, err := client.New(wrong, -1); x != nil || err != api.ErrConfig {
		t.Error("a wrong config:", err)
	}
	for _, id := range []int{-1, 2, 4, math.MinInt64, math.MaxInt64} {
		if x, err := client.New(three(), id); x != nil || err != api.ErrNode {
			t.Errorf("the client %d: %v", id, err)
		}
	}
	for id := range 2 {
		x := fresh(t, three(), id)
		idle(t, x)
		if x.Quit() {
			t.Error("Quit of what it doesn't do")
		}
		nothing(t, x, told(id, 0, 0, api.Meta{}), told(id, 1, 0, api.Meta{}))
	}
}

func TestPut(t *testing.T) {
	x := fresh(t, three(), 1)
	value := "a value of 23 bytes ..."
	asked(t, begun(t)(x.Put("key", []byte(value))), questions(api.MsgAsk, 1, 1, "key", api.Meta{}, 0, 1, 2)...)
	busy(t, x)
	nothing(t, x, told(1, 1, 2, metaOf(5, 0, 9, "elder")))
	m := metaOf(8, 1, 4, value)
	asked(t, x.Take(told(1, 1, 0, deadAt(7, 3))), staged(three(), 1, 1, "key", m, value)...)
	nothing(t, x, coded(api.MsgStaged, 1, 1, 1, api.OK))
	asked(t, x.Take(coded(api.MsgStaged, 1, 1, 0, api.OK)), questions(api.MsgCommit, 1, 1, "key", m, 0, 1, 2)...)
	nothing(t, x, coded(api.MsgDone, 1, 1, 2, api.OK))
	busy(t, x)
	nothing(t, x, coded(api.MsgDone, 1, 1, 1, api.OK))
	ended(t, x, api.Result{Op: 1, Do: api.DoPut, Key: "key", Tag: tag(8, 1)})
	// The next thing has the next number; the new tag is behind the last one, though that isn't told.
	asked(t, begun(t)(x.Put("key", []byte("x"))), questions(api.MsgAsk, 1, 2, "key", api.Meta{}, 0, 1, 2)...)
	nothing(t, x, told(1, 2, 0, api.Meta{}))
	asked(t, x.Take(told(1, 2, 1, metaOf(3, 0, 4, "elder"))), staged(three(), 1, 2, "key", metaOf(9, 1, 4, "x"), "x")...)
}

func TestDelete(t *testing.T) {
	x := fresh(t, three(), 0)
	asked(t, begun(t)(x.Delete("key")), questions(api.MsgAsk, 0, 1, "key", api.Meta{}, 0, 1, 2)...)
	nothing(t, x, told(0, 1, 1, api.Meta{}))
	asked(t, x.Take(told(0, 1, 2, metaOf(1, 1, 4, "v"))), questions(api.MsgCommit, 0, 1, "key", deadAt(2, 0), 0, 1, 2)...)
	nothing(t, x, coded(api.MsgDone, 0, 1, 1, api.OK), coded(api.MsgDone, 0, 1, 0, api.OK))
	ended(t, x, api.Result{Op: 1, Do: api.DoDelete, Key: "key", Tag: tag(2, 0)})
	begun(t)(x.Delete("other"))
	nothing(t, x, told(0, 2, 1, api.Meta{}))
	asked(t, x.Take(told(0, 2, 2, api.Meta{})), questions(api.MsgCommit, 0, 2, "other", deadAt(3, 0), 0, 1, 2)...)
}

func TestTheBestIsTheLatest(t *testing.T) {
	tags := []api.Tag{tag(4, 1), tag(4, 2), tag(3, 3), tag(5, 0), tag(4, 3)}
	for shift := range tags {
		x := fresh(t, five(), 2)
		begun(t)(x.Delete("k"))
		best := api.Tag{}
		var got []api.Msg
		for node := range 3 {
			at := tags[(node+shift)%5]
			best = meta.Later(best, at)
			got = x.Take(told(2, 1, node, deadAt(at.N, at.Client)))
		}
		asked(t, got, questions(api.MsgCommit, 2, 1, "k", deadAt(best.N+1, 2), 0, 1, 2, 3, 4)...)
	}
}

func TestGetOfNothing(t *testing.T) {
	x := fresh(t, three(), 0)
	asked(t, begun(t)(x.Get("key")), questions(api.MsgAsk, 0, 1, "key", api.Meta{}, 0, 1, 2)...)
	nothing(t, x, told(0, 1, 1, api.Meta{}), told(0, 1, 0, api.Meta{}))
	ended(t, x, api.Result{Op: 1, Do: api.DoGet, Key: "key"})
}

func TestGetOfAnEnd(t *testing.T) {
	x := fresh(t, three(), 0)
	begun(t)(x.Get("key"))
	nothing(t, x, told(0, 1, 1, metaOf(1, 1, 4, "v")))
	asked(t, x.Take(told(0, 1, 2, deadAt(2, 1))), questions(api.MsgCommit, 0, 1, "key", deadAt(2, 1), 0, 1, 2)...)
	nothing(t, x, coded(api.MsgDone, 0, 1, 0, api.OK), coded(api.MsgDone, 0, 1, 2, api.OK))
	ended(t, x, api.Result{Op: 1, Do: api.DoGet, Key: "key", Tag: tag(2, 1)})
}

// fetching is a client of five nodes that fetches the value, which has the tag 6, 1.
func fetching(t *testing.T, value string, symbol int) (*client.Client, api.Meta) {
	t.Helper()
	x, m := fresh(t, five(), 3), metaOf(6, 1, symbol, value)
	begun(t)(x.Get("key"))
	nothing(t, x, told(3, 1, 0, m), told(3, 1, 4, api.Meta{}))
	asked(t, x.Take(told(3, 1, 2, deadAt(5, 2))), questions(api.MsgFetch, 3, 1, "key", m, 0, 1, 2, 3, 4)...)
	return x, m
}

func symsOf(value string, t, block int, esis ...int) []api.Sym {
	list, _ := chunk.Symbols([]byte(value), t, block, esis...)
	return list
}

// commits: the client has found the value, and commits it.
func commits(t *testing.T, x *client.Client, got []api.Msg, m api.Meta, value string) {
	t.Helper()
	asked(t, got, questions(api.MsgCommit, 3, 1, "key", m, 0, 1, 2, 3, 4)...)
	for node := range 4 {
		busy(t, x)
		nothing(t, x, coded(api.MsgDone, 3, 1, node, api.OK))
	}
	ended(t, x, api.Result{Op: 1, Do: api.DoGet, Key: "key", Tag: m.Tag, Found: true, Value: []byte(value)})
}

func TestGet(t *testing.T) {
	value := "a value of 23 bytes ..."
	x, m := fetching(t, value, 4)
	nothing(t, x, syms(3, 1, 1, m, symsOf(value, 4, 0, 0, 1, 2)...), syms(3, 1, 2, api.Meta{}), syms(3, 1, 4, deadAt(5, 3), symsOf(value, 4, 0, 5)...))
	commits(t, x, x.Take(syms(3, 1, 0, m, symsOf(value, 4, 0, 4, 3)...)), m, value)
}

func TestGetOfSymbolsOfAnotherSize(t *testing.T) {
	value := strings.Repeat("0123456789", 40)
	x, m := fetching(t, value, 5) // 80 symbols, three blocks
	var one, two []api.Sym
	for block, k := range []int{27, 27, 26} {
		for esi := range k {
			one = append(one, symsOf(value, 5, block, 2*esi)...)
			two = append(two, symsOf(value, 5, block, 2*esi+1)...)
		}
	}
	nothing(t, x, syms(3, 1, 1, m, one[:60]...), syms(3, 1, 2, m, two[:20]...))
	commits(t, x, x.Take(syms(3, 1, 3, m, append(one[60:], two[60:]...)...)), m, value)
}

func TestGetPassesOverWhatIsNoSymbol(t *testing.T) {
	value := "a value of 23 bytes ..."
	x, m := fetching(t, value, 4)
	good := symsOf(value, 4, 0, 0, 1, 2, 3, 4, 5)
	var bad []api.Sym
	for esi := range 6 {
		bad = append(bad, api.Sym{Esi: esi}, api.Sym{Esi: esi, Data: []byte("abc")}, api.Sym{Esi: esi, Data: []byte("abcde")}, api.Sym{Block: 1, Esi: esi, Data: []byte("abcd")})
	}
	nothing(t, x, syms(3, 1, 1, m, bad...), syms(3, 1, 2, m, append(bad, good[:5]...)...))
	commits(t, x, x.Take(syms(3, 1, 3, m, append(bad, good[5])...)), m, value)
}

func TestGetCountsTheFirstOfEachSymbol(t *testing.T) {
	value := "a value of 23 bytes ..."
	good := symsOf(value, 4, 0, 0, 1, 2, 3, 4, 5)
	other := symsOf(strings.ToUpper(value), 4, 0, 0, 1, 2, 3, 4, 5)
	x, m := fetching(t, value, 4)
	nothing(t, x, syms(3, 1, 1, m, good[:3]...))
	commits(t, x, x.Take(syms(3, 1, 3, m, append(slices.Clone(other[:3]), good[3:]...)...)), m, value)
	// The first one is wrong: whatever comes behind, the value isn't told.
	x, m = fetching(t, value, 4)
	nothing(t, x, syms(3, 1, 1, m, other[0]))
	for node := range 4 {
		busy(t, x)
		if node != 1 {
			nothing(t, x, syms(3, 1, node, m, good...))
		}
	}
	busy(t, x)
	nothing(t, x, syms(3, 1, 4, m, good...))
	ended(t, x, api.Result{Op: 1, Do: api.DoGet, Key: "key", Code: api.ErrRank})
}

func TestGetOfWhatContradictsItself(t *testing.T) {
	value := "a value of 23 bytes ..."
	good := symsOf(value, 4, 0, 0, 1, 2, 3, 4, 5)
	wrong := symsOf(strings.ToUpper(value), 4, 0, 9)
	x, m := fetching(t, value, 4)
	nothing(t, x, syms(3, 1, 0, m, good[:5]...), syms(3, 1, 1, m, wrong...))
	for _, node := range []int{2, 3} {
		busy(t, x)
		nothing(t, x, syms(3, 1, node, m, good...))
	}
	busy(t, x)
	nothing(t, x, syms(3, 1, 4, m))
	ended(t, x, api.Result{Op: 1, Do: api.DoGet, Key: "key", Code: api.ErrRank})
}

func TestGetCountsTheFirst128OfABlock(t *testing.T) {
	value := strings.Repeat("v", 40) // two blocks of 20
	first := func(block, from, to int) []api.Sym {
		var esis []int
		for esi := from; esi < to; esi++ {
			esis = append(esis, esi)
		}
		return symsOf(value, 1, block, esis...)
	}
	x, m := fetching(t, value, 1)
	// The 129th contradicts the others: it doesn't count.
	wrong := first(0, 200, 201)
	wrong[0].Data = []byte{wrong[0].Data[0] ^ 1}
	nothing(t, x, syms(3, 1, 0, m, first(0, 0, 128)...), syms(3, 1, 1, m, wrong...))
	commits(t, x, x.Take(syms(3, 1, 2, m, first(1, 0, 20)...)), m, value)
	// The 128th does.
	x, m = fetching(t, value, 1)
	nothing(t, x, syms(3, 1, 0, m, first(0, 0, 127)...), syms(3, 1, 1, m, wrong...), syms(3, 1, 2, m, first(1, 0, 20)...), syms(3, 1, 3, m), syms(3, 1, 4, m))
	ended(t, x, api.Result{Op: 1, Do: api.DoGet, Key: "key", Code: api.ErrRank})
}

func TestGetWithTooFewSymbols(t *testing.T) {
	value := "a value of 23 bytes ..."
	x, m := fetching(t, value, 4)
	for node := range 4 {
		nothing(t, x, syms(3, 1, node, m, symsOf(value, 4, 0, node)...))
		busy(t, x)
	}
	nothing(t, x, syms(3, 1, 4, m, symsOf(value, 4, 0, 4)...))
	ended(t, x, api.Result{Op: 1, Do: api.DoGet, Key: "key", Code: api.ErrRank})
}

func TestGetOfAnotherDigest(t *testing.T) {
	value := "a value of 23 bytes ..."
	x, m := fetching(t, value, 4)
	other := strings.ToUpper(value)
	for node := range 4 {
		nothing(t, x, syms(3, 1, node, m, symsOf(other, 4, 0, 0, 1, 2, 3, 4, 5)...))
		busy(t, x)
	}
	nothing(t, x, syms(3, 1, 4, m))
	ended(t, x, api.Result{Op: 1, Do: api.DoGet, Key: "key", Code: api.ErrRank})
}

func TestGetAsksAgain(t *testing.T) {
	value := "a value of 23 bytes ..."
	x, m := fetching(t, value, 4)
	nothing(t, x, syms(3, 1, 2, m, symsOf(value, 4, 0, 0, 1, 2, 3, 4)...))
	// A later version: all that was gathered and told is forgotten.
	asked(t, x.Take(syms(3, 1, 1, metaOf(6, 2, 4, "other"), symsOf(value, 4, 0, 5)...)), questions(api.MsgAsk, 3, 1, "key", api.Meta{}, 0, 1, 2, 3, 4)...)
	nothing(t, x, syms(3, 1, 3, m, symsOf(value, 4, 0, 5)...)) // no answer of this phase
	nothing(t, x, told(3, 1, 1, deadAt(2, 0)), told(3, 1, 2, api.Meta{}))
	elder := metaOf(4, 0, 4, value)
	asked(t, x.Take(told(3, 1, 3, elder)), questions(api.MsgFetch, 3, 1, "key", elder, 0, 1, 2, 3, 4)...)
	nothing(t, x, syms(3, 1, 4, elder, symsOf(value, 4, 0, 5)...))
	commits(t, x, x.Take(syms(3, 1, 2, elder, symsOf(value, 4, 0, 0, 1, 2, 3, 4)...)), elder, value)
}

func TestGetAsksNineTimes(t *testing.T) {
	x, m := fetching(t, "value", 4)
	for times := 1; ; times++ {
		got := x.Take(syms(3, 1, times%5, metaOf(7+times, 0, 4, "later"), symsOf("value", 4, 0, 0, 1)...))
		if times == 9 {
			asked(t, got)
			break
		}
		asked(t, got, questions(api.MsgAsk, 3, 1, "key", api.Meta{}, 0, 1, 2, 3, 4)...)
		busy(t, x)
		m = metaOf(7+times, 0, 4, "later")
		nothing(t, x, told(3, 1, 0, m), told(3, 1, 1, m))
		asked(t, x.Take(told(3, 1, 2, m)), questions(api.MsgFetch, 3, 1, "key", m, 0, 1, 2, 3, 4)...)
	}
	ended(t, x, api.Result{Op: 1, Do: api.DoGet, Key: "key", Code: api.ErrStale})
	// The next get begins to count anew.
	begun(t)(x.Get("key"))
	nothing(t, x, told(3, 2, 0, m), told(3, 2, 1, m))
	asked(t, x.Take(told(3, 2, 2, m)), questions(api.MsgFetch, 3, 2, "key", m, 0, 1, 2, 3, 4)...)
	asked(t, x.Take(syms(3, 2, 2, metaOf(99, 0, 4, "later"))), questions(api.MsgAsk, 3, 2, "key", api.Meta{}, 0, 1, 2, 3, 4)...)
}

func TestList(t *testing.T) {
	x := fresh(t, five(), 0)
	asked(t, begun(t)(x.List()), questions(api.MsgList, 0, 1, "", api.Meta{}, 0, 1, 2, 3, 4)...)
	item := func(key string, m api.Meta) api.Item { return api.Item{Key: key, Meta: m} }
	keys := func(from int, items ...api.Item) api.Msg {
		a := answer(api.MsgKeys, 0, 1, from)
		a.Items = items
		return a
	}
	nothing(t, x,
		keys(4, item("first dead", deadAt(3, 0)), item("first alive", metaOf(3, 0, 4, "v")), item("later dead", metaOf(1, 0, 4, "v")), item("b", metaOf(1, 0, 4, "v")), item("dead", deadAt(1, 0)), item("elder dead", deadAt(1, 0))),
		keys(0),
		keys(2, item("first dead", metaOf(2, 3, 4, "v")), item("first alive", deadAt(2, 3)), item("later dead", deadAt(1, 1)), item("\xff", metaOf(9, 0, 4, "v")), item("elder dead", metaOf(1, 1, 4, "v")), item("a", metaOf(1, 0, 4, "v")), item("b", metaOf(1, 0, 4, "v"))))
	ended(t, x, api.Result{Op: 1, Do: api.DoList, Keys: []string{"a", "b", "elder dead", "first alive", "\xff"}})
	nothing(t, x, keys(1, item("c", metaOf(1, 0, 4, "v"))))
	idle(t, x)
	begun(t)(x.List())
	for node := range 3 {
		a := answer(api.MsgKeys, 0, 2, node)
		nothing(t, x, a)
	}
	ended(t, x, api.Result{Op: 2, Do: api.DoList})
}

func TestErrorsOfTheBeginnings(t *testing.T) {
	x := fresh(t, three(), 0)
	value := []byte("value")
	for _, key := range []string{"", strings.Repeat("k", 33)} {
		for i, begin := range []func() ([]api.Msg, api.Errno){
			func() ([]api.Msg, api.Errno) { return x.Put(key, value) },
			func() ([]api.Msg, api.Errno) { return x.Put(key, nil) },
			func() ([]api.Msg, api.Errno) { return x.Get(key) },
			func() ([]api.Msg, api.Errno) { return x.Delete(key) },
		} {
			if ms, err := begin(); err != api.ErrKey || len(ms) != 0 {
				t.Errorf("the call %d with the key %q: %v", i, key, err)
			}
			idle(t, x)
		}
	}
	for _, n := range []int{0, 1025, 70000} {
		if ms, err := x.Put("k", make([]byte, n)); err != api.ErrValue || len(ms) != 0 {
			t.Errorf("Put of %d bytes: %v", n, err)
		}
		idle(t, x)
	}
	beginnings := []func() ([]api.Msg, api.Errno){
		func() ([]api.Msg, api.Errno) { return x.Put("k", make([]byte, 1024)) },
		func() ([]api.Msg, api.Errno) { return x.Get(strings.Repeat("k", 32)) },
		func() ([]api.Msg, api.Errno) { return x.Delete("k") },
		x.List,
	}
	op := 0
	for i, begin := range beginnings {
		op++
		if got := begun(t)(begin()); len(got) != 3 || got[0].Op != op {
			t.Errorf("the call %d: %d messages", i, len(got))
		}
		for j, other := range append(beginnings, func() ([]api.Msg, api.Errno) { return x.Put("", nil) }, func() ([]api.Msg, api.Errno) { return x.Get("") }, func() ([]api.Msg, api.Errno) { return x.Delete("") }) {
			if ms, err := other(); err != api.ErrBusy || len(ms) != 0 {
				t.Errorf("the call %d while it does %d: %v", j, i, err)
			}
		}
		busy(t, x)
		if got := x.Again(); len(got) != 3 || got[2].Op != op {
			t.Errorf("Again: %d", len(got))
		}
		if !x.Quit() || x.Quit() {
			t.Error("Quit")
		}
		idle(t, x)
	}
}

func TestWhatIsPassedOver(t *testing.T) {
	value := "value"
	changes := []func(*api.Msg){
		func(m *api.Msg) { m.To = 9 },
		func(m *api.Msg) { m.To = 0 },
		func(m *api.Msg) { m.To = -1 },
		func(m *api.Msg) { m.Op = 2 },
		func(m *api.Msg) { m.Op = 0 },
		func(m *api.Msg) { m.Op = -1 },
		func(m *api.Msg) { m.From = 3 },
		func(m *api.Msg) { m.From = 7 },
		func(m *api.Msg) { m.From = 8 },
		func(m *api.Msg) { m.From = -1 },
		func(m *api.Msg) { m.From = math.MinInt64 },
		func(m *api.Msg) { m.Kind-- },
		func(m *api.Msg) { m.Kind++ },
		func(m *api.Msg) { m.Kind = 0 },
		func(m *api.Msg) { m.Kind += 2 },
		func(m *api.Msg) { m.Kind -= 2 },
		func(m *api.Msg) { m.Code = -1 },
		func(m *api.Msg) { m.Code = 1 << 31 },
		func(m *api.Msg) { m.Key = strings.Repeat("k", 33) },
		func(m *api.Msg) { m.Meta = api.Meta{T: 1} },
		func(m *api.Msg) { m.Syms = []api.Sym{{Block: 1024}} },
		func(m *api.Msg) { m.Items = []api.Item{{Key: "k"}} },
	}
	x := fresh(t, three(), 0)
	begun(t)(x.Put("k", []byte(value)))
	pass := func(next api.Msg) {
		t.Helper()
		for i, change := range changes {
			m := next
			change(&m)
			if got := x.Take(m); len(got) != 0 || !x.Busy() {
				t.Errorf("the change %d: %s", i, showMsg(m))
			}
		}
	}
	m := metaOf(1, 0, 4, value)
	first := told(0, 1, 1, api.Meta{})
	pass(first)
	asked(t, x.Again(), questions(api.MsgAsk, 0, 1, "k", api.Meta{}, 0, 1, 2)...)
	nothing(t, x, first, first, first) // one node's answer counts once
	second := told(0, 1, 2, api.Meta{})
	second.Key, second.Code = "another key", 5 // these aren't asked
	pass(second)
	asked(t, x.Again(), questions(api.MsgAsk, 0, 1, "k", api.Meta{}, 0, 2)...)
	asked(t, x.Take(second), staged(three(), 0, 1, "k", m, value)...)
	pass(coded(api.MsgStaged, 0, 1, 0, api.OK))
	pass(coded(api.MsgStaged, 0, 1, 0, api.ErrFull))
	nothing(t, x, first, second, told(0, 1, 0, api.Meta{}), coded(api.MsgStaged, 0, 1, 1, api.OK), coded(api.MsgStaged, 0, 1, 1, api.OK), coded(api.MsgStaged, 0, 1, 1, api.ErrFull))
	asked(t, x.Again(), staged(three(), 0, 1, "k", m, value)[0], staged(three(), 0, 1, "k", m, value)[2])
	asked(t, x.Take(coded(api.MsgStaged, 0, 1, 0, api.OK)), questions(api.MsgCommit, 0, 1, "k", m, 0, 1, 2)...)
	pass(coded(api.MsgDone, 0, 1, 2, api.OK))
	nothing(t, x, coded(api.MsgStaged, 0, 1, 2, api.OK), coded(api.MsgDone, 0, 1, 2, api.OK))
	asked(t, x.Again(), questions(api.MsgCommit, 0, 1, "k", m, 0, 1)...)
	nothing(t, x, coded(api.MsgDone, 0, 1, 0, api.OK))
	ended(t, x, api.Result{Op: 1, Do: api.DoPut, Key: "k", Tag: tag(1, 0)})
	nothing(t, x, coded(api.MsgDone, 0, 1, 1, api.OK))
	idle(t, x)
}

func TestTalliesThatAreLost(t *testing.T) {
	x := fresh(t, five(), 1) // of five nodes four are needed
	stage := func() {
		begun(t)(x.Put("k", []byte("value")))
	}
	tell := func(op int) []api.Msg {
		nothing(t, x, told(1, op, 0, api.Meta{}), told(1, op, 1, api.Meta{}))
		return x.Take(told(1, op, 2, api.Meta{}))
	}
	stage()
	if len(tell(1)) != 5 {
		t.Error("Stage")
	}
	nothing(t, x, coded(api.MsgStaged, 1, 1, 4, api.ErrFull))
	busy(t, x)
	nothing(t, x, coded(api.MsgStaged, 1, 1, 0, api.OK), coded(api.MsgStaged, 1, 1, 2, api.ErrClash))
	ended(t, x, api.Result{Op: 1, Do: api.DoPut, Key: "k", Code: api.ErrFull})
	// The codes of one phase play no part in another.
	stage()
	tell(2)
	nothing(t, x, coded(api.MsgStaged, 1, 2, 4, api.ErrFull))
	for node := range 3 {
		nothing(t, x, coded(api.MsgStaged, 1, 2, node, api.OK))
	}
	if got := x.Take(coded(api.MsgStaged, 1, 2, 3, api.OK)); len(got) != 5 || got[0].Kind != api.MsgCommit {
		t.Error("Commit")
	}
	nothing(t, x, coded(api.MsgDone, 1, 2, 0, api.ErrClash))
	busy(t, x)
	nothing(t, x, coded(api.MsgDone, 1, 2, 1, 1))
	ended(t, x, api.Result{Op: 2, Do: api.DoPut, Key: "k", Code: api.ErrClash})
	begun(t)(x.Delete("k"))
	tell(3)
	nothing(t, x, coded(api.MsgDone, 1, 3, 3, 1), coded(api.MsgDone, 1, 3, 1, last))
	ended(t, x, api.Result{Op: 3, Do: api.DoDelete, Key: "k", Code: last})
	begun(t)(x.Get("k"))
	nothing(t, x, told(1, 4, 0, deadAt(3, 3)), told(1, 4, 1, api.Meta{}))
	asked(t, x.Take(told(1, 4, 2, api.Meta{})), questions(api.MsgCommit, 1, 4, "k", deadAt(3, 3), 0, 1, 2, 3, 4)...)
	nothing(t, x, coded(api.MsgDone, 1, 4, 3, 7), coded(api.MsgDone, 1, 4, 1, 8))
	ended(t, x, api.Result{Op: 4, Do: api.DoGet, Key: "k", Code: 8})
	// A value that was found isn't told, if it can't be committed.
	m := metaOf(9, 3, 4, "abc")
	begun(t)(x.Get("k"))
	nothing(t, x, told(1, 5, 0, m), told(1, 5, 1, api.Meta{}))
	asked(t, x.Take(told(1, 5, 2, api.Meta{})), questions(api.MsgFetch, 1, 5, "k", m, 0, 1, 2, 3, 4)...)
	asked(t, x.Take(syms(1, 5, 1, m, symsOf("abc", 4, 0, 0)...)), questions(api.MsgCommit, 1, 5, "k", m, 0, 1, 2, 3, 4)...)
	nothing(t, x, coded(api.MsgDone, 1, 5, 3, 7), coded(api.MsgDone, 1, 5, 1, 8))
	ended(t, x, api.Result{Op: 5, Do: api.DoGet, Key: "k", Code: 8})
}

func TestNoSuchMeta(t *testing.T) {
	for _, do := range []int{api.DoPut, api.DoDelete} {
		x := fresh(t, three(), 1)
		if do == api.DoPut {
			begun(t)(x.Put("k", []byte("v")))
		} else {
			begun(t)(x.Delete("k"))
		}
		nothing(t, x, told(1, 1, 0, deadAt(last, 0)), told(1, 1, 1, api.Meta{}))
		ended(t, x, api.Result{Op: 1, Do: do, Key: "k", Code: api.ErrMeta})
		x = fresh(t, three(), 1)
		if do == api.DoPut {
			begun(t)(x.Put("k", []byte("v")))
		} else {
			begun(t)(x.Delete("k"))
		}
		nothing(t, x, told(1, 1, 0, deadAt(last-1, 0)))
		if got := x.Take(told(1, 1, 1, api.Meta{})); len(got) != 3 || got[0].Meta.Tag != tag(last, 1) {
			t.Error("the last tag", got)
		}
	}
}

func TestQuitAndResult(t *testing.T) {
	x := fresh(t, three(), 0)
	begun(t)(x.Put("k", []byte("one")))
	nothing(t, x, told(0, 1, 0, api.Meta{}))
	if got := x.Take(told(0, 1, 1, api.Meta{})); len(got) != 3 || got[0].Meta.Tag != tag(1, 0) {
		t.Error("Stage", got)
	}
	if !x.Quit() {
		t.Error("Quit")
	}
	idle(t, x)
	nothing(t, x, coded(api.MsgStaged, 0, 1, 0, api.OK), coded(api.MsgStaged, 0, 1, 1, api.OK))
	idle(t, x)
	// The tag that may be staged somewhere isn't made again.
	begun(t)(x.Put("k", []byte("two")))
	nothing(t, x, coded(api.MsgStaged, 0, 1, 0, api.OK), told(0, 1, 2, api.Meta{}), told(0, 2, 0, api.Meta{}))
	if got := x.Take(told(0, 2, 1, api.Meta{})); len(got) != 3 || got[0].Meta.Tag != tag(2, 0) || got[0].Op != 2 {
		t.Error("Stage", got)
	}
	x.Quit()
	// What ended before and wasn't told isn't told any more, once something is begun.
	begun(t)(x.Get("k"))
	nothing(t, x, told(0, 3, 0, api.Meta{}), told(0, 3, 1, api.Meta{}))
	if x.Busy() || x.Quit() {
		t.Error("the get hasn't ended")
	}
	if _, err := x.Get(""); err != api.ErrKey {
		t.Error(err)
	}
	ended(t, x, api.Result{Op: 3, Do: api.DoGet, Key: "k"})
	begun(t)(x.Get("k"))
	nothing(t, x, told(0, 4, 0, api.Meta{}), told(0, 4, 1, api.Meta{}))
	begun(t)(x.Get("j"))
	busy(t, x)
	x.Quit()
	idle(t, x)
}

func TestOneNode(t *testing.T) {
	c := api.Config{Nodes: 1, Write: 1, Read: 1, Clients: 1, T: 64, Slots: 9}
	x := fresh(t, c, 0)
	asked(t, begun(t)(x.Put("k", []byte("abc"))), questions(api.MsgAsk, 0, 1, "k", api.Meta{}, 0)...)
	m := metaOf(1, 0, 64, "abc")
	asked(t, x.Take(told(0, 1, 0, api.Meta{})), staged(c, 0, 1, "k", m, "abc")...)
	asked(t, x.Take(coded(api.MsgStaged, 0, 1, 0, api.OK)), questions(api.MsgCommit, 0, 1, "k", m, 0)...)
	nothing(t, x, coded(api.MsgDone, 0, 1, 0, api.OK))
	ended(t, x, api.Result{Op: 1, Do: api.DoPut, Key: "k", Tag: tag(1, 0)})
}

// apart: does no list share memory with another, spare room included?
func apart(lists ...[]byte) bool {
	for i, a := range lists {
		for _, b := range lists[:i] {
			x, y := uintptr(unsafe.Pointer(unsafe.SliceData(a))), uintptr(unsafe.Pointer(unsafe.SliceData(b)))
			if x < y+uintptr(cap(b)) && y < x+uintptr(cap(a)) {
				return false
			}
		}
	}
	return true
}

func listsOf(ms ...api.Msg) [][]byte {
	var lists [][]byte
	for _, m := range ms {
		lists = append(lists, m.Meta.Sum)
		for _, s := range m.Syms {
			lists = append(lists, s.Data)
		}
		for _, i := range m.Items {
			lists = append(lists, i.Meta.Sum)
		}
	}
	return lists
}

func spoil(lists ...[]byte) {
	for _, list := range lists {
		list = list[:cap(list)]
		for i := range list {
			list[i] = '?'
		}
	}
}

func TestListsAreLeftAndAnswersAreNew(t *testing.T) {
	value := "a value of 23 bytes ..."
	x := fresh(t, three(), 0)
	room := []byte(value + "behind")
	begun(t)(x.Put("k", room[:23]))
	if string(room) != value+"behind" {
		t.Error("what was handed in has changed")
	}
	spoil(room)
	best := told(0, 1, 0, deadAt(1, 1))
	nothing(t, x, best)
	m := metaOf(2, 0, 4, value)
	one := x.Take(told(0, 1, 1, api.Meta{}))
	two := x.Again()
	lists := append(listsOf(append(slices.Clone(one), two...)...), room)
	if !apart(lists...) {
		t.Error("two messages share memory")
	}
	spoil(lists...)
	asked(t, x.Again(), staged(three(), 0, 1, "k", m, value)...)
	nothing(t, x, coded(api.MsgStaged, 0, 1, 0, api.OK))
	one = x.Take(coded(api.MsgStaged, 0, 1, 1, api.OK))
	if !apart(listsOf(one...)...) {
		t.Error("two messages share memory")
	}
	spoil(listsOf(one...)...)
	asked(t, x.Again(), questions(api.MsgCommit, 0, 1, "k", m, 0, 1, 2)...)
	x.Quit()

	begun(t)(x.Get("k"))
	first := told(0, 2, 0, metaOf(2, 0, 4, value))
	nothing(t, x, first)
	spoil(listsOf(first)...)
	one = x.Take(told(0, 2, 1, api.Meta{}))
	spoil(listsOf(one...)...)
	asked(t, x.Again(), questions(api.MsgFetch, 0, 2, "k", m, 0, 1, 2)...)
	some := syms(0, 2, 2, m, symsOf(value, 4, 0, 0, 1, 2, 3)...)
	before := showMsg(some)
	nothing(t, x, some)
	if showMsg(some) != before {
		t.Error("what was handed in has changed")
	}
	spoil(listsOf(some)...)
	m = metaOf(2, 0, 4, value)
	asked(t, x.Take(syms(0, 2, 1, m, symsOf(value, 4, 0, 4, 5)...)), questions(api.MsgCommit, 0, 2, "k", m, 0, 1, 2)...)
	nothing(t, x, coded(api.MsgDone, 0, 2, 0, api.OK), coded(api.MsgDone, 0, 2, 1, api.OK))
	ended(t, x, api.Result{Op: 2, Do: api.DoGet, Key: "k", Tag: tag(2, 0), Found: true, Value: []byte(value)})
}
