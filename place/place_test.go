package place_test

import (
	"bytes"
	"math"
	"math/rand"
	"slices"
	"testing"
	"unsafe"

	"rill/api"
	"rill/chunk"
	"rill/place"
)

const lastEsi = 1<<24 - 1

var outermost = []int{math.MinInt64, math.MinInt64 + 1, -1, math.MaxInt64 - 1, math.MaxInt64, 1 << 32}

func five() api.Config {
	return api.Config{Nodes: 5, Write: 4, Read: 3, Clients: 2, T: 4, Slots: 100}
}

// configs are all of their nodes, writes and reads.
func configs() []api.Config {
	var all []api.Config
	for nodes := 1; nodes <= 8; nodes++ {
		for write := 1; write <= nodes; write++ {
			for read := nodes - write + 1; read <= nodes; read++ {
				all = append(all, api.Config{Nodes: nodes, Write: write, Read: read, Clients: 1, T: 1, Slots: 1})
			}
		}
	}
	return all
}

func wrongConfigs() []api.Config {
	var all []api.Config
	change := func(changes ...func(*api.Config)) {
		c := five()
		for _, f := range changes {
			f(&c)
		}
		all = append(all, c)
	}
	all = append(all, api.Config{})
	for _, n := range append([]int{0, 1 << 16}, outermost...) {
		change(func(c *api.Config) { c.Nodes = n })
		change(func(c *api.Config) { c.Write = n })
		change(func(c *api.Config) { c.Read = n })
		change(func(c *api.Config) { c.Clients = n })
		change(func(c *api.Config) { c.T = n })
		change(func(c *api.Config) { c.Slots = n })
	}
	change(func(c *api.Config) { c.Nodes, c.Write, c.Read = 9, 8, 8 })
	change(func(c *api.Config) { c.Nodes, c.Write, c.Read = 0, 0, 0 })
	change(func(c *api.Config) { c.Nodes, c.Write, c.Read = 0, 1, 1 })
	change(func(c *api.Config) { c.Write = 6 })
	change(func(c *api.Config) { c.Read = 6 })
	change(func(c *api.Config) { c.Write = 2 })
	change(func(c *api.Config) { c.Read = 1 })
	change(func(c *api.Config) { c.Write, c.Read = math.MaxInt64, math.MaxInt64 })
	change(func(c *api.Config) { c.Clients = 5 })
	change(func(c *api.Config) { c.T = 65 })
	change(func(c *api.Config) { c.Slots = 513 })
	return all
}

func TestCheck(t *testing.T) {
	for _, c := range append(configs(), five(),
		api.Config{Nodes: 1, Write: 1, Read: 1, Clients: 4, T: 64, Slots: 512},
		api.Config{Nodes: 8, Write: 8, Read: 1, Clients: 1, T: 1, Slots: 1}) {
		if err := place.Check(c); err != api.OK {
			t.Errorf("Check(%+v): %v", c, err)
		}
	}
	for _, c := range wrongConfigs() {
		if err := place.Check(c); err != api.ErrConfig {
			t.Errorf("Check(%+v): %v", c, err)
		}
		if q, err := place.Share(c, 0); q != 0 || err != api.ErrConfig {
			t.Errorf("Share(%+v): %d, %v", c, q, err)
		}
		if esis, err := place.Esis(c, -1, 0, -1); len(esis) != 0 || err != api.ErrConfig {
			t.Errorf("Esis(%+v): %v, %v", c, esis, err)
		}
		if node, round, err := place.Owner(c, 0, -1); node != 0 || round != 0 || err != api.ErrConfig {
			t.Errorf("Owner(%+v): %d, %d, %v", c, node, round, err)
		}
		if deal, err := place.Deal(c, nil); len(deal) != 0 || err != api.ErrConfig {
			t.Errorf("Deal(%+v): %v, %v", c, deal, err)
		}
	}
	for nodes := 1; nodes <= 8; nodes++ { // those nodes that needn't have one in common
		for write := 1; write < nodes; write++ {
			c := api.Config{Nodes: nodes, Write: write, Read: nodes - write, Clients: 1, T: 1, Slots: 1}
			if err := place.Check(c); err != api.ErrConfig {
				t.Errorf("Check(%+v): %v", c, err)
			}
		}
	}
}

// share counts up to what m shares less one symbol each have.
func share(c api.Config, k int) int {
	q := 0
	for q*(c.Write+c.Read-c.Nodes) < k {
		q++
	}
	return q + 1
}

func TestShare(t *testing.T) {
	for _, c := range configs() {
		for k := 1; k <= 32; k++ {
			if q, err := place.Share(c, k); q != share(c, k) || err != api.OK {
				t.Errorf("Share(%+v, %d) = %d, %v", c, k, q, err)
			}
		}
	}
	for _, k := range append([]int{0, 33}, outermost...) {
		if q, err := place.Share(five(), k); q != 0 || err != api.ErrSize {
			t.Errorf("Share of %d: %d, %v", k, q, err)
		}
		if esis, err := place.Esis(five(), -1, k, -1); len(esis) != 0 || err != api.ErrSize {
			t.Errorf("Esis of %d: %v, %v", k, esis, err)
		}
		if node, round, err := place.Owner(five(), k, -1); node != 0 || round != 0 || err != api.ErrSize {
			t.Errorf("Owner of %d: %d, %d, %v", k, node, round, err)
		}
	}
}

func TestEsisAndOwner(t *testing.T) {
	for _, c := range configs() {
		for k := 1; k <= 32; k += 1 + k%3 {
			q := share(c, k)
			for _, round := range []int{0, 1, 2, 77, 50000} {
				for node := range c.Nodes {
					var want []int
					for j := range q {
						want = append(want, node+c.Nodes*(q*round+j))
					}
					got, err := place.Esis(c, node, k, round)
					if want[q-1] > lastEsi && (err != api.ErrEsi || len(got) != 0) || want[q-1] <= lastEsi && (err != api.OK || !slices.Equal(got, want)) {
						t.Fatalf("Esis(%+v, %d, %d, %d) = %v, %v", c, node, k, round, got, err)
					}
					for _, esi := range got {
						if n, r, err := place.Owner(c, k, esi); n != node || r != round || err != api.OK {
							t.Fatalf("Owner(%+v, %d, %d) = %d, %d, %v", c, k, esi, n, r, err)
						}
					}
				}
			}
		}
	}
	esis, _ := place.Esis(five(), 1, 6, 0)
	more, _ := place.Esis(five(), 1, 6, 1)
	node, round, err := place.Owner(five(), 6, 21)
	if !slices.Equal(esis, []int{1, 6, 11, 16}) || !slices.Equal(more, []int{21, 26, 31, 36}) || node != 1 || round != 1 || err != api.OK {
		t.Error("the chapter's example", esis, more, node, round, err)
	}
}

func TestNoSuchNodeOrNumber(t *testing.T) {
	c := five()
	for _, n := range append([]int{5, 8}, outermost...) {
		if esis, err := place.Esis(c, n, 6, -1); err != api.ErrNode || len(esis) != 0 {
			t.Errorf("Esis of the node %d: %v, %v", n, esis, err)
		}
	}
	for _, n := range append([]int{100001}, outermost...) {
		if esis, err := place.Esis(c, 1, 6, n); err != api.ErrEsi || len(esis) != 0 {
			t.Errorf("Esis of the round %d: %v, %v", n, esis, err)
		}
	}
	for _, n := range append([]int{lastEsi + 1}, outermost...) {
		if node, round, err := place.Owner(c, 6, n); err != api.ErrEsi || node != 0 || round != 0 {
			t.Errorf("Owner of %d: %d, %d, %v", n, node, round, err)
		}
	}
	if esis, err := place.Esis(c, 4, 6, 100000); err != api.OK || esis[3] != 4+5*(4*100000+3) {
		t.Error("Esis of the last round", esis, err)
	}
	if node, round, err := place.Owner(c, 6, lastEsi); err != api.OK || node != lastEsi%5 || round != lastEsi/20 || round < 100000 {
		t.Error("Owner of the last number", node, round, err)
	}
	// 8 nodes, one in common, and 31 symbols: 32 of them each, 256 a round; that many go into 2^24 just 65536 times.
	wide := api.Config{Nodes: 8, Write: 8, Read: 1, Clients: 1, T: 1, Slots: 1}
	for node := range 8 {
		if esis, err := place.Esis(wide, node, 31, 65535); err != api.OK || esis[31] != lastEsi-7+node {
			t.Error("Esis up to the last number", esis, err)
		}
		if esis, err := place.Esis(wide, node, 31, 65536); err != api.ErrEsi || len(esis) != 0 {
			t.Error("Esis beyond the numbers", esis, err)
		}
		// With 32 symbols the round 63550 would begin within the numbers, and end beyond.
		if esis, err := place.Esis(wide, node, 32, 63549); err != api.OK || esis[32] != node+8*(33*63550-1) {
			t.Error("Esis within the numbers", esis, err)
		}
		if esis, err := place.Esis(wide, node, 32, 63550); err != api.ErrEsi || len(esis) != 0 {
			t.Error("Esis in part beyond the numbers", esis, err)
		}
	}
}

func TestDeal(t *testing.T) {
	r := rand.New(rand.NewSource(1))
	for _, c := range configs() {
		value := make([]byte, 1+r.Intn(200))
		r.Read(value)
		c.T = 1 + r.Intn(20)
		if len(value)%7 == 0 {
			c.T = 1
		}
		parts, _ := chunk.Parts(len(value), c.T)
		deal, err := place.Deal(c, value)
		if err != api.OK || len(deal) != c.Nodes {
			t.Fatalf("Deal(%+v, %d bytes): %d, %v", c, len(value), len(deal), err)
		}
		for node, got := range deal {
			var want []api.Sym
			for block, k := range parts {
				esis, _ := place.Esis(c, node, k, 0)
				syms, _ := chunk.Symbols(value, c.T, block, esis...)
				want = append(want, syms...)
			}
			if !slices.EqualFunc(got, want, func(a, b api.Sym) bool {
				return a.Block == b.Block && a.Esi == b.Esi && bytes.Equal(a.Data, b.Data)
			}) {
				t.Errorf("Deal(%+v, %d bytes) to %d: %v", c, len(value), node, got)
			}
		}
		// The nodes that any write and any read have in common can give back the value.
		order := r.Perm(c.Nodes)[:c.Write+c.Read-c.Nodes]
		var syms []api.Sym
		for _, node := range order {
			syms = append(syms, deal[node]...)
		}
		if chunk.Ready(len(value), c.T, syms...) {
			if got, err := chunk.Gather(len(value), c.T, syms...); err != api.OK || !bytes.Equal(got, value) {
				t.Errorf("%+v: the nodes %v give back %v, %v", c, order, got, err)
			}
		}
	}
}

func TestDealOfWhatCannotBe(t *testing.T) {
	for _, n := range []int{0, 1025, 5000} {
		if deal, err := place.Deal(five(), make([]byte, n)); err != api.ErrValue || len(deal) != 0 {
			t.Errorf("Deal of %d bytes: %v, %v", n, deal, err)
		}
	}
	c := five()
	c.T = 65
	if deal, err := place.Deal(c, nil); err != api.ErrConfig || len(deal) != 0 {
		t.Error("Deal with wrong symbols", deal, err)
	}
	c.T = 1
	if deal, err := place.Deal(c, make([]byte, 1024)); err != api.OK || len(deal) != 5 || len(deal[4]) != 32*17 {
		t.Error("Deal of the greatest value", err)
	}
}

// apart: does no list share memory with another, spare room included?
func apart(lists ...[]byte) bool {
	for i, a := range lists {
		for _, b := range lists[:i] {
			x, y := uintptr(unsafe.Pointer(unsafe.SliceData(a))), uintptr(unsafe.Pointer(unsafe.SliceData(b)))
			if x < y+uintptr(cap(b)) && y < x+uintptr(cap(a)) {
				return false
			}
		}
	}
	return true
}

func TestListsAreLeftAndAnswersAreNew(t *testing.T) {
	room := []byte("a value and what is behind")
	deal, _ := place.Deal(five(), room[:7])
	if string(room) != "a value and what is behind" {
		t.Errorf("what was handed in has changed: %q", room)
	}
	lists := [][]byte{room}
	for i, syms := range deal {
		for _, sym := range syms {
			lists = append(lists, sym.Data)
		}
		deal[i] = append(syms, api.Sym{Block: 9})
	}
	if !apart(lists...) {
		t.Error("an answer shares memory")
	}
	again, _ := place.Deal(five(), room[:7])
	for node, syms := range deal {
		if len(syms) != len(again[node])+1 || syms[0].Esi != node || string(syms[0].Data) != string(again[node][0].Data) {
			t.Error("two lists of one answer share memory", deal)
		}
	}
	esis, _ := place.Esis(five(), 1, 6, 0)
	esis[0] = 99
	if again, _ := place.Esis(five(), 1, 6, 0); again[0] != 1 {
		t.Error("Esis once more", again)
	}
}
