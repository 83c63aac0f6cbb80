package chunk_test

import (
	"bytes"
	"math"
	"math/rand"
	"slices"
	"testing"
	"unsafe"

	"rill/api"
	"rill/chunk"
	"rill/rq"
)

const lastEsi = 1<<24 - 1

// wrong are sizes of values and of symbols, with the error of Parts.
var wrong = []struct {
	size, t int
	want    api.Errno
}{
	{0, 1, api.ErrValue}, {-1, 1, api.ErrValue}, {1025, 64, api.ErrValue}, {math.MinInt64, 1, api.ErrValue}, {math.MaxInt64, 1, api.ErrValue},
	{0, 0, api.ErrValue}, {1025, 65, api.ErrValue}, {math.MaxInt64, math.MaxInt64, api.ErrValue},
	{1, 0, api.ErrSize}, {1024, 65, api.ErrSize}, {5, -1, api.ErrSize}, {5, math.MinInt64, api.ErrSize}, {5, math.MaxInt64, api.ErrSize},
}

// parts deals the symbols to the blocks in turn, which makes the first ones the greater ones.
func parts(size, t int) []int {
	n := (size-1)/t + 1
	ks := make([]int, (n-1)/32+1)
	for i := 0; i < n; i++ {
		ks[i%len(ks)]++
	}
	return ks
}

func valueOf(size int) []byte {
	value := make([]byte, size)
	rand.New(rand.NewSource(int64(size))).Read(value)
	return value
}

func upTo(n int) []int {
	numbers := make([]int, n)
	for i := range numbers {
		numbers[i] = i
	}
	return numbers
}

// firsts are the source's symbols of a value, and one more of each block.
func firsts(value []byte, t int) []api.Sym {
	var syms []api.Sym
	for block, k := range parts(len(value), t) {
		some, _ := chunk.Symbols(value, t, block, upTo(k+1)...)
		syms = append(syms, some...)
	}
	return syms
}

func TestParts(t *testing.T) {
	for size := 1; size <= 1024; size++ {
		for symbol := 1; symbol <= 64; symbol++ {
			if got, err := chunk.Parts(size, symbol); err != api.OK || !slices.Equal(got, parts(size, symbol)) {
				t.Fatalf("Parts(%d, %d) = %v, %v", size, symbol, got, err)
			}
		}
	}
	for _, c := range []struct {
		size, t int
		want    []int
	}{{33, 1, []int{17, 16}}, {5, 2, []int{3}}, {32, 1, []int{32}}, {64, 1, []int{32, 32}}, {65, 1, []int{22, 22, 21}}, {1, 64, []int{1}}} {
		if got, err := chunk.Parts(c.size, c.t); err != api.OK || !slices.Equal(got, c.want) {
			t.Errorf("Parts(%d, %d) = %v, %v", c.size, c.t, got, err)
		}
	}
	for _, c := range wrong {
		if got, err := chunk.Parts(c.size, c.t); err != c.want || len(got) != 0 {
			t.Errorf("Parts(%d, %d) = %v, %v", c.size, c.t, got, err)
		}
	}
}

func TestSplit(t *testing.T) {
	for _, c := range []struct{ size, t int }{{1, 1}, {1, 64}, {5, 2}, {33, 1}, {64, 64}, {65, 64}, {100, 3}, {1024, 1}, {1024, 64}, {1023, 31}, {1000, 7}} {
		value := valueOf(c.size)
		blocks, err := chunk.Split(value, c.t)
		var ks []int
		var all []byte
		for _, block := range blocks {
			ks = append(ks, len(block))
			for _, symbol := range block {
				if len(symbol) != c.t {
					t.Errorf("Split of %d by %d: a symbol of %d bytes", c.size, c.t, len(symbol))
				}
				all = append(all, symbol...)
			}
		}
		if err != api.OK || !slices.Equal(ks, parts(c.size, c.t)) {
			t.Errorf("Split of %d by %d: %v, %v", c.size, c.t, ks, err)
		}
		if want := append(bytes.Clone(value), make([]byte, len(all)-c.size)...); !bytes.Equal(all, want) {
			t.Errorf("Split of %d by %d: %v", c.size, c.t, all)
		}
	}
	blocks, _ := chunk.Split([]byte("abcde"), 2)
	if len(blocks) != 1 || string(bytes.Join(blocks[0], []byte("|"))) != "ab|cd|e\x00" {
		t.Errorf("%q", blocks)
	}
	for _, c := range wrong {
		if c.size < 0 || c.size > 2000 {
			continue
		}
		if blocks, err := chunk.Split(make([]byte, c.size), c.t); err != c.want || len(blocks) != 0 {
			t.Errorf("Split of %d by %d: %v, %v", c.size, c.t, blocks, err)
		}
	}
	if blocks, err := chunk.Split(nil, 5); err != api.ErrValue || len(blocks) != 0 {
		t.Error("Split of nothing", blocks, err)
	}
}

func TestSymbols(t *testing.T) {
	for _, c := range []struct{ size, t int }{{1, 1}, {23, 4}, {100, 3}, {1024, 1}, {1024, 64}} {
		value := valueOf(c.size)
		blocks, _ := chunk.Split(value, c.t)
		for block := range blocks {
			esis := []int{5, 0, 40, 0, lastEsi}
			pieces, _ := rq.Encode(blocks[block], esis...)
			syms, err := chunk.Symbols(value, c.t, block, esis...)
			if err != api.OK || len(syms) != len(pieces) {
				t.Fatalf("Symbols of %d by %d, block %d: %d, %v", c.size, c.t, block, len(syms), err)
			}
			for i, sym := range syms {
				if sym.Block != block || sym.Esi != esis[i] || !bytes.Equal(sym.Data, pieces[i].Data) {
					t.Errorf("Symbols of %d by %d, block %d: %v", c.size, c.t, block, sym)
				}
			}
		}
		if syms, err := chunk.Symbols(value, c.t, 0); err != api.OK || len(syms) != 0 {
			t.Error("Symbols for no numbers", syms, err)
		}
		for _, block := range []int{-1, len(blocks), math.MinInt64, math.MaxInt64} {
			if syms, err := chunk.Symbols(value, c.t, block, 0, -1); err != api.ErrBlock || len(syms) != 0 {
				t.Errorf("Symbols of the block %d: %v, %v", block, syms, err)
			}
		}
		for _, esi := range []int{-1, lastEsi + 1, math.MinInt64, math.MaxInt64} {
			if syms, err := chunk.Symbols(value, c.t, 0, 0, esi); err != api.ErrEsi || len(syms) != 0 {
				t.Errorf("Symbols with the number %d: %v, %v", esi, syms, err)
			}
		}
	}
	for _, c := range wrong {
		if c.size < 0 || c.size > 2000 {
			continue
		}
		if syms, err := chunk.Symbols(make([]byte, c.size), c.t, -1, -1); err != c.want || len(syms) != 0 {
			t.Errorf("Symbols of %d by %d: %v, %v", c.size, c.t, syms, err)
		}
	}
}

func TestGatherAndReady(t *testing.T) {
	r := rand.New(rand.NewSource(1))
	for _, c := range []struct{ size, t int }{{1, 1}, {1, 64}, {5, 2}, {23, 4}, {100, 3}, {130, 1}, {1023, 9}, {1024, 64}, {1024, 1}} {
		value := valueOf(c.size)
		ks := parts(c.size, c.t)
		var syms []api.Sym
		for block, k := range ks {
			esis := r.Perm(3 * k)[:k]
			for !rq.Enough(k, esis...) {
				esis = append(esis, r.Intn(lastEsi+1))
			}
			some, _ := chunk.Symbols(value, c.t, block, esis...)
			syms = append(syms, some...)
		}
		r.Shuffle(len(syms), func(i, j int) { syms[i], syms[j] = syms[j], syms[i] })
		if got, err := chunk.Gather(c.size, c.t, syms...); err != api.OK || !bytes.Equal(got, value) || !chunk.Ready(c.size, c.t, syms...) {
			t.Errorf("Gather of %d by %d: %v, %v", c.size, c.t, got, err)
		}
		few := slices.DeleteFunc(slices.Clone(syms), func(s api.Sym) bool { return s.Block == len(ks)-1 && s.Esi%2 == syms[0].Esi%2 })
		want := api.OK
		var left []int
		for _, s := range few {
			if s.Block == len(ks)-1 {
				left = append(left, s.Esi)
			}
		}
		if !rq.Enough(ks[len(ks)-1], left...) {
			want = api.ErrRank
		}
		if got, err := chunk.Gather(c.size, c.t, few...); err != want || chunk.Ready(c.size, c.t, few...) != (want == api.OK) || err != api.OK && len(got) != 0 {
			t.Errorf("Gather of fewer of %d by %d: %v, %v, not %v", c.size, c.t, got, err, want)
		}
	}
}

func TestGatherTheExample(t *testing.T) {
	for _, esis := range [][]int{{0, 1, 2}, {2, 1, 0}, {3, 4, 5}, {0, 7, 9}, {100, 2, 33}} {
		syms, _ := chunk.Symbols([]byte("abcde"), 2, 0, esis...)
		got, err := chunk.Gather(5, 2, syms...)
		if rq.Enough(3, esis...) && (string(got) != "abcde" || err != api.OK) || !rq.Enough(3, esis...) && err != api.ErrRank {
			t.Errorf("Gather of %v: %q, %v", esis, got, err)
		}
	}
}

func TestGatherOfWhatCannotBe(t *testing.T) {
	value := valueOf(40)
	good := firsts(value, 1) // two blocks of 20: the numbers 0 to 20 of each
	with := func(changes ...func([]api.Sym)) []api.Sym {
		syms := slices.Clone(good)
		for _, change := range changes {
			change(syms)
		}
		return syms
	}
	block := func(at, block int) func([]api.Sym) { return func(s []api.Sym) { s[at].Block = block } }
	esi := func(at, esi int) func([]api.Sym) { return func(s []api.Sym) { s[at].Esi = esi } }
	data := func(at int, data string) func([]api.Sym) { return func(s []api.Sym) { s[at].Data = []byte(data) } }
	turned := func(at int) func([]api.Sym) { return data(at, string([]byte{^good[at].Data[0]})) }
	many := slices.Repeat(good[:1], 129)
	manyBehind := slices.Repeat(good[41:], 129)
	for i, c := range []struct {
		syms []api.Sym
		want api.Errno
	}{
		{good, api.OK},
		{nil, api.ErrRank},
		{good[:21], api.ErrRank},
		{good[21:], api.ErrRank},
		{with(block(41, 2)), api.ErrBlock},
		{with(block(0, -1)), api.ErrBlock},
		{with(block(0, math.MinInt64)), api.ErrBlock},
		{with(block(0, math.MaxInt64), esi(1, -1)), api.ErrBlock},
		{with(esi(41, -1)), api.ErrEsi},
		{with(esi(0, lastEsi+1)), api.ErrEsi},
		{with(data(0, "")), api.ErrLength},
		{with(data(41, "ab")), api.ErrLength},
		{with(data(0, "ab"), esi(1, -1)), api.ErrEsi},
		{with(data(0, "ab"), esi(41, -1)), api.ErrLength},
		{with(esi(0, -1), data(41, "ab")), api.ErrEsi},
		{append(with(), many...), api.ErrMany},
		{append(with(data(41, "ab")), many...), api.ErrMany},
		{append(with(data(0, "ab")), manyBehind...), api.ErrLength},
		{append(with(block(41, 2)), many...), api.ErrBlock},
		{with(turned(20)), api.ErrClash},
		{with(turned(41)), api.ErrClash},
		{append(with(turned(20)), manyBehind...), api.ErrClash},
		{append(with(), good...), api.OK},
		{append(manyBehind[:100:100], good...), api.OK},
		{append(slices.Clone(good[5:]), many[:100]...), api.ErrRank},
	} {
		got, err := chunk.Gather(40, 1, c.syms...)
		if err != c.want || err == api.OK && !bytes.Equal(got, value) || err != api.OK && len(got) != 0 {
			t.Errorf("case %d: Gather: %v, %v, not %v", i, got, err, c.want)
		}
	}
	for _, c := range wrong {
		if got, err := chunk.Gather(c.size, c.t, good...); err != c.want || len(got) != 0 || chunk.Ready(c.size, c.t, good...) {
			t.Errorf("Gather(%d, %d): %v, %v", c.size, c.t, got, err)
		}
	}
}

func TestReadyOfWhatCannotBe(t *testing.T) {
	good := firsts(valueOf(40), 1)
	if !chunk.Ready(40, 1, good...) || chunk.Ready(40, 1, good[:21]...) || chunk.Ready(40, 1, good[21:]...) || chunk.Ready(40, 1) {
		t.Error("Ready of both blocks, or one")
	}
	for _, bad := range []api.Sym{{Block: 2}, {Block: -1}, {Block: math.MaxInt64}, {Block: math.MinInt64}, {Esi: -1}, {Block: 1, Esi: lastEsi + 1}, {Esi: math.MaxInt64}} {
		if chunk.Ready(40, 1, append(slices.Clone(good), bad)...) {
			t.Errorf("Ready with %+v", bad)
		}
	}
	if !chunk.Ready(40, 1, append(slices.Clone(good), slices.Repeat(good[:1], 107)...)...) || chunk.Ready(40, 1, append(slices.Clone(good), slices.Repeat(good[:1], 108)...)...) {
		t.Error("Ready with many of a block")
	}
	// What the symbols say plays no part.
	for i := range good {
		good[i].Data = nil
	}
	if !chunk.Ready(40, 1, good...) {
		t.Error("Ready without bytes")
	}
}

// apart: does no list share memory with another, spare room included?
func apart(lists ...[]byte) bool {
	for i, a := range lists {
		for _, b := range lists[:i] {
			x, y := uintptr(unsafe.Pointer(unsafe.SliceData(a))), uintptr(unsafe.Pointer(unsafe.SliceData(b)))
			if x < y+uintptr(cap(b)) && y < x+uintptr(cap(a)) {
				return false
			}
		}
	}
	return true
}

func TestListsAreLeftAndAnswersAreNew(t *testing.T) {
	room := []byte("abcde-behind")
	value := room[:5]
	esis := []int{2, 0, 1, 7}
	blocks, _ := chunk.Split(value, 2)
	syms, _ := chunk.Symbols(value, 2, 0, esis[:3]...)
	syms = append(syms, api.Sym{Block: 9})
	got, err := chunk.Gather(5, 2, syms[:3]...)
	if string(got) != "abcde" || err != api.OK || !chunk.Ready(5, 2, syms[:3]...) {
		t.Errorf("Gather: %q, %v", got, err)
	}
	if string(room) != "abcde-behind" || !slices.Equal(esis, []int{2, 0, 1, 7}) || len(syms) != 4 || syms[3].Block != 9 {
		t.Error("what was handed in has changed", room, esis, syms)
	}
	if string(syms[0].Data) != "e\x00" || string(syms[1].Data) != "ab" || string(syms[2].Data) != "cd" {
		t.Error("Symbols", syms)
	}
	lists := append([][]byte{room, got}, blocks[0]...)
	for _, sym := range syms {
		lists = append(lists, sym.Data)
	}
	if !apart(lists...) {
		t.Error("an answer shares memory")
	}
}
