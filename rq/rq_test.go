package rq_test

import (
	"bytes"
	"math"
	"math/rand"
	"testing"
	"unsafe"

	"rill/api"
	"rill/gf"
	"rill/lin"
	"rill/rq"
	"rill/tuple"
)

const lastEsi = 1<<24 - 1

var noSizes = []int{math.MinInt64, -1, 0, 33, 64, math.MaxInt64}

// met is a row of 1s at the positions that are met an odd number of times.
func met(l int, positions ...int) []byte {
	count := make([]int, l)
	for _, p := range positions {
		count[p]++
	}
	row := make([]byte, l)
	for i, n := range count {
		row[i] = byte(n % 2)
	}
	return row
}

func rowOfPlace(k, x int) []byte {
	c, _ := tuple.Params(k)
	t, _ := tuple.Tuple(k, x)
	positions := []int{t.B}
	for i, b := 1, t.B; i < t.D; i++ {
		b = (b + t.A) % c.W
		positions = append(positions, b)
	}
	b1 := t.B1
	for b1 >= c.P {
		b1 = (b1 + t.A1) % c.P1
	}
	positions = append(positions, c.W+b1)
	for i := 1; i < t.D1; i++ {
		b1 = (b1 + t.A1) % c.P1
		for b1 >= c.P {
			b1 = (b1 + t.A1) % c.P1
		}
		positions = append(positions, c.W+b1)
	}
	return met(c.L, positions...)
}

func rowOf(k, esi int) []byte {
	if c, _ := tuple.Params(k); esi >= k {
		return rowOfPlace(k, esi+c.Kp-k)
	}
	return rowOfPlace(k, esi)
}

func fixed(k int) [][]byte {
	c, _ := tuple.Params(k)
	at := make([][]int, c.S)
	for i := 0; i < c.B; i++ {
		a, b := 1+i/c.S, i%c.S
		at[b] = append(at[b], i)
		at[(b+a)%c.S] = append(at[(b+a)%c.S], i)
		at[(b+2*a)%c.S] = append(at[(b+2*a)%c.S], i)
	}
	var rows [][]byte
	for i, positions := range at {
		rows = append(rows, met(c.L, append(positions, c.B+i, c.W+i%c.P, c.W+(i+1)%c.P)...))
	}
	for h := 0; h < c.H; h++ {
		row := met(c.L, c.Kp+c.S+h)
		for j := 0; j < c.Kp+c.S; j++ {
			row[j] = gf.Exp((h + 1) * (j + 1))
		}
		rows = append(rows, row)
	}
	for x := k; x < c.Kp; x++ {
		rows = append(rows, rowOfPlace(k, x))
	}
	return rows
}

func same(a, b [][]byte) bool {
	if len(a) != len(b) {
		return false
	}
	for i := range a {
		if !bytes.Equal(a[i], b[i]) {
			return false
		}
	}
	return true
}

func source(r *rand.Rand, k, t int) [][]byte {
	symbols := make([][]byte, k)
	for i := range symbols {
		symbols[i] = make([]byte, t)
		r.Read(symbols[i])
	}
	return symbols
}

// rank is that of the fixed rows and those of the numbers.
func rank(k int, esis ...int) int {
	rows := fixed(k)
	for _, esi := range esis {
		rows = append(rows, rowOf(k, esi))
	}
	n, _ := lin.Rank(len(rows[0]), rows...)
	return n
}

func upTo(n int) []int {
	numbers := make([]int, n)
	for i := range numbers {
		numbers[i] = i
	}
	return numbers
}

func TestFixed(t *testing.T) {
	for k := 1; k <= 32; k++ {
		if got, err := rq.Fixed(k); err != api.OK || !same(got, fixed(k)) {
			t.Errorf("Fixed(%d) = %v, %v", k, got, err)
		}
	}
	for _, k := range noSizes {
		if got, err := rq.Fixed(k); err != api.ErrSize || len(got) != 0 {
			t.Errorf("Fixed(%d) = %v, %v", k, got, err)
		}
	}
}

func TestRow(t *testing.T) {
	for k := 1; k <= 32; k++ {
		for _, esi := range append(upTo(100), 12345, 65537, lastEsi-1, lastEsi) {
			if got, err := rq.Row(k, esi); err != api.OK || !bytes.Equal(got, rowOf(k, esi)) {
				t.Fatalf("Row(%d, %d) = %v, %v", k, esi, got, err)
			}
		}
		for _, esi := range []int{-1, math.MinInt64, lastEsi + 1, math.MaxInt64} {
			if got, err := rq.Row(k, esi); err != api.ErrEsi || len(got) != 0 {
				t.Errorf("Row(%d, %d) = %v, %v", k, esi, got, err)
			}
		}
	}
	for _, k := range noSizes {
		for _, esi := range []int{0, -1, lastEsi + 1} {
			if got, err := rq.Row(k, esi); err != api.ErrSize || len(got) != 0 {
				t.Errorf("Row(%d, %d) = %v, %v", k, esi, got, err)
			}
		}
	}
}

func TestInner(t *testing.T) {
	r := rand.New(rand.NewSource(1))
	for k := 1; k <= 32; k++ {
		symbols := source(r, k, 1+(k*7)%64)
		inner, err := rq.Inner(symbols...)
		c, _ := tuple.Params(k)
		if err != api.OK || len(inner) != c.L {
			t.Fatalf("Inner of %d symbols: %d, %v", k, len(inner), err)
		}
		for i, row := range fixed(k) {
			if got := gf.Mix(row, inner...); !bytes.Equal(got, make([]byte, len(symbols[0]))) {
				t.Errorf("k %d: the fixed row %d has the value %v", k, i, got)
			}
		}
		for x, symbol := range symbols {
			if got := gf.Mix(rowOfPlace(k, x), inner...); !bytes.Equal(got, symbol) {
				t.Errorf("k %d: the place %d has the value %v", k, x, got)
			}
		}
	}
}

func TestEncode(t *testing.T) {
	r := rand.New(rand.NewSource(2))
	for k := 1; k <= 32; k++ {
		symbols := source(r, k, 1+(k*5)%64)
		inner, _ := rq.Inner(symbols...)
		esis := append(upTo(k+9), lastEsi, 0, 70000, 70000)
		pieces, err := rq.Encode(symbols, esis...)
		if err != api.OK || len(pieces) != len(esis) {
			t.Fatalf("Encode of %d symbols: %d pieces, %v", k, len(pieces), err)
		}
		for i, p := range pieces {
			if p.Esi != esis[i] || !bytes.Equal(p.Data, gf.Mix(rowOf(k, p.Esi), inner...)) {
				t.Errorf("k %d: the piece %d is %v", k, esis[i], p)
			}
			if p.Esi < k && !bytes.Equal(p.Data, symbols[p.Esi]) {
				t.Errorf("k %d: the piece %d isn't the source's symbol", k, p.Esi)
			}
		}
	}
	pieces, err := rq.Encode([][]byte{[]byte("ab")}, 0, 1)
	if err != api.OK || len(pieces) != 2 || string(pieces[0].Data) != "ab" || pieces[0].Esi != 0 || pieces[1].Esi != 1 {
		t.Error("the chapter's example", pieces, err)
	}
	if pieces, err := rq.Encode([][]byte{[]byte("ab")}); err != api.OK || len(pieces) != 0 {
		t.Error("Encode for no numbers", pieces, err)
	}
}

func TestSourcesThatCannotBe(t *testing.T) {
	r := rand.New(rand.NewSource(3))
	bent := func(k, at, length int) [][]byte {
		symbols := source(r, k, 4)
		symbols[at] = make([]byte, length)
		return symbols
	}
	for i, c := range []struct {
		source [][]byte
		want   api.Errno
	}{
		{nil, api.ErrSize},
		{[][]byte{}, api.ErrSize},
		{source(r, 33, 4), api.ErrSize},
		{source(r, 33, 0), api.ErrSize},
		{bent(33, 5, 3), api.ErrSize},
		{[][]byte{nil}, api.ErrSize},
		{[][]byte{{}, {1}}, api.ErrSize},
		{source(r, 3, 65), api.ErrSize},
		{bent(3, 0, 65), api.ErrSize},
		{source(r, 32, 64), api.OK},
		{source(r, 1, 1), api.OK},
		{bent(3, 1, 3), api.ErrLength},
		{bent(3, 2, 5), api.ErrLength},
		{bent(3, 2, 0), api.ErrLength},
		{bent(3, 2, 70), api.ErrLength},
		{bent(32, 31, 3), api.ErrLength},
	} {
		inner, err := rq.Inner(c.source...)
		if err != c.want || err != api.OK && len(inner) != 0 {
			t.Errorf("case %d: Inner: %d, %v, not %v", i, len(inner), err, c.want)
		}
		pieces, err := rq.Encode(c.source, 0, 5)
		if err != c.want || err != api.OK && len(pieces) != 0 {
			t.Errorf("case %d: Encode: %d, %v, not %v", i, len(pieces), err, c.want)
		}
		want := c.want
		if want == api.OK {
			want = api.ErrEsi
		}
		for _, esi := range []int{-1, lastEsi + 1, math.MinInt64, math.MaxInt64} {
			if pieces, err := rq.Encode(c.source, 0, esi, 1); err != want || len(pieces) != 0 {
				t.Errorf("case %d: Encode of %d: %d, %v, not %v", i, esi, len(pieces), err, want)
			}
		}
	}
}

// shuffled takes n numbers, some of the source and some behind it.
func shuffled(r *rand.Rand, k, n int) []int {
	esis := r.Perm(2*k + 6)[:n]
	for i := range esis {
		if r.Intn(8) == 0 {
			esis[i] = r.Intn(lastEsi + 1)
		}
	}
	return esis
}

func TestDecodeJustIfTheRankIsFull(t *testing.T) {
	r := rand.New(rand.NewSource(4))
	count := map[bool]int{}
	for round := 0; round < 400; round++ {
		k := 1 + r.Intn(32)
		symbols := source(r, k, 1+r.Intn(9))
		esis := shuffled(r, k, k+r.Intn(5)-2+r.Intn(2)*r.Intn(3))
		c, _ := tuple.Params(k)
		whole := rank(k, esis...) == c.L
		count[whole]++
		if got := rq.Enough(k, esis...); got != whole {
			t.Fatalf("Enough(%d, %v) = %v", k, esis, got)
		}
		pieces, _ := rq.Encode(symbols, esis...)
		got, err := rq.Decode(k, len(symbols[0]), pieces...)
		if whole && (err != api.OK || !same(got, symbols)) {
			t.Fatalf("Decode(%d) of %v: %v, %v", k, esis, got, err)
		}
		if !whole && (err != api.ErrRank || len(got) != 0) {
			t.Fatalf("Decode(%d) of %v: %v, %v, not ErrRank", k, esis, got, err)
		}
	}
	if count[true] < 50 || count[false] < 50 {
		t.Error("the sweep is one-sided", count)
	}
}

func TestTheFirstSymbolsAreAlwaysEnough(t *testing.T) {
	r := rand.New(rand.NewSource(5))
	for k := 1; k <= 32; k++ {
		symbols := source(r, k, 3)
		first := upTo(k)
		if !rq.Enough(k, first...) || rq.Enough(k, first[:k-1]...) {
			t.Errorf("Enough(%d) of the first", k)
		}
		r.Shuffle(k, func(i, j int) { first[i], first[j] = first[j], first[i] })
		esis := append(append([]int{k + 3, lastEsi}, first...), 0, 0)
		pieces, _ := rq.Encode(symbols, esis...)
		if got, err := rq.Decode(k, 3, pieces...); err != api.OK || !same(got, symbols) || !rq.Enough(k, esis...) {
			t.Errorf("Decode(%d): %v, %v", k, got, err)
		}
	}
}

func TestDecodeWhatContradictsItself(t *testing.T) {
	r := rand.New(rand.NewSource(6))
	for round := 0; round < 60; round++ {
		k := 1 + r.Intn(32)
		symbols := source(r, k, 2)
		esis := append(r.Perm(k), k+r.Intn(50))
		pieces, _ := rq.Encode(symbols, esis...)
		pieces[r.Intn(len(pieces))].Data[r.Intn(2)] ^= byte(1 << r.Intn(8))
		got, err := rq.Decode(k, 2, pieces...)
		// A piece may play no part in the further one, and then the source is another one.
		if err == api.OK {
			again, _ := rq.Encode(got, esis...)
			for i := range again {
				if !bytes.Equal(again[i].Data, pieces[i].Data) {
					t.Fatalf("Decode(%d) of %v answers another source", k, esis)
				}
			}
		} else if err != api.ErrClash || len(got) != 0 {
			t.Fatalf("Decode(%d) of %v: %v, %v", k, esis, got, err)
		}
	}
	one, two := api.Piece{Esi: 0, Data: []byte("a")}, api.Piece{Esi: 0, Data: []byte("b")}
	if got, err := rq.Decode(1, 1, one, two); err != api.ErrClash || len(got) != 0 {
		t.Error("two first symbols", got, err)
	}
	if got, err := rq.Decode(1, 1, one, one); err != api.OK || !same(got, [][]byte{{'a'}}) {
		t.Error("one symbol twice", got, err)
	}
	if got, err := rq.Decode(2, 1, one, two); err != api.ErrRank || len(got) != 0 {
		t.Error("too few that contradict themselves", got, err)
	}
}

func TestDecodeOfWhatCannotBe(t *testing.T) {
	good, bad, short := api.Piece{Data: []byte("ab")}, api.Piece{Esi: -1, Data: []byte("ab")}, api.Piece{Data: []byte("a")}
	times := func(n int, p api.Piece) []api.Piece {
		pieces := make([]api.Piece, n)
		for i := range pieces {
			pieces[i] = p
		}
		return pieces
	}
	for i, c := range []struct {
		k, t   int
		pieces []api.Piece
		want   api.Errno
	}{
		{0, 2, times(1, good), api.ErrSize},
		{33, 2, times(1, good), api.ErrSize},
		{math.MinInt64, 2, nil, api.ErrSize},
		{math.MaxInt64, 2, nil, api.ErrSize},
		{1, 0, times(1, good), api.ErrSize},
		{1, 65, times(1, good), api.ErrSize},
		{1, math.MinInt64, nil, api.ErrSize},
		{1, math.MaxInt64, nil, api.ErrSize},
		{33, 2, times(129, bad), api.ErrSize},
		{1, 65, times(129, bad), api.ErrSize},
		{1, 2, times(128, good), api.OK},
		{1, 2, times(129, good), api.ErrMany},
		{1, 2, times(129, bad), api.ErrMany},
		{1, 2, []api.Piece{good, bad}, api.ErrEsi},
		{1, 2, []api.Piece{short, bad}, api.ErrEsi},
		{1, 2, []api.Piece{{Esi: lastEsi + 1, Data: []byte("ab")}}, api.ErrEsi},
		{1, 2, []api.Piece{{Esi: math.MaxInt64, Data: []byte("ab")}}, api.ErrEsi},
		{1, 2, []api.Piece{good, short}, api.ErrLength},
		{1, 2, []api.Piece{good, {Esi: 1, Data: []byte("abc")}}, api.ErrLength},
		{1, 2, []api.Piece{good, {Esi: 1}}, api.ErrLength},
		{2, 2, []api.Piece{short}, api.ErrLength},
		{1, 2, nil, api.ErrRank},
		{2, 2, times(3, good), api.ErrRank},
		{1, 2, []api.Piece{{Esi: lastEsi, Data: []byte("ab")}}, map[bool]api.Errno{true: api.OK, false: api.ErrRank}[rank(1, lastEsi) == 11]},
	} {
		if got, err := rq.Decode(c.k, c.t, c.pieces...); err != c.want || err != api.OK && len(got) != 0 {
			t.Errorf("case %d: Decode: %v, %v, not %v", i, got, err, c.want)
		}
	}
}

func TestDecodeOfAllSymbolSizes(t *testing.T) {
	r := rand.New(rand.NewSource(7))
	for size := 1; size <= 64; size++ {
		symbols := source(r, 5, size)
		pieces, _ := rq.Encode(symbols, 0, 9, 8, 7, 6, 5, 2)
		if !rq.Enough(5, 0, 9, 8, 7, 6, 5, 2) {
			t.Fatal("these are too few for this test")
		}
		if got, err := rq.Decode(5, size, pieces...); err != api.OK || !same(got, symbols) {
			t.Errorf("Decode of symbols of %d bytes: %v", size, err)
		}
	}
}

func TestEnoughOfWhatCannotBe(t *testing.T) {
	for _, k := range noSizes {
		if rq.Enough(k, upTo(32)...) || rq.Enough(k) {
			t.Errorf("Enough(%d)", k)
		}
	}
	for _, esi := range []int{-1, lastEsi + 1, math.MinInt64, math.MaxInt64} {
		if rq.Enough(2, 0, 1, esi) || rq.Enough(2, esi, 0, 1) {
			t.Errorf("Enough with the number %d", esi)
		}
	}
	if rq.Enough(3, 0, 1) || !rq.Enough(3, 0, 1, 2) || rq.Enough(1) || !rq.Enough(2, 0, 1, lastEsi) {
		t.Error("Enough of few")
	}
	if !rq.Enough(32, upTo(128)...) || rq.Enough(32, upTo(129)...) || !rq.Enough(1, make([]int, 128)...) || rq.Enough(1, make([]int, 129)...) {
		t.Error("Enough of many")
	}
}

// apart: does no list share memory with another, spare room included?
func apart(lists ...[]byte) bool {
	for i, a := range lists {
		for _, b := range lists[:i] {
			x, y := uintptr(unsafe.Pointer(unsafe.SliceData(a))), uintptr(unsafe.Pointer(unsafe.SliceData(b)))
			if x < y+uintptr(cap(b)) && y < x+uintptr(cap(a)) {
				return false
			}
		}
	}
	return true
}

func TestListsAreLeftAndAnswersAreNew(t *testing.T) {
	room := []byte{1, 2, 77}
	symbols := [][]byte{room[:2], {3, 4}, {9, 9, 9}}
	esis := []int{1, 0, 5, 66}
	pieces, _ := rq.Encode(symbols[:2], esis[:3]...)
	inner, _ := rq.Inner(symbols[:2]...)
	rows, _ := rq.Fixed(2)
	row, _ := rq.Row(2, 0)
	decoded, err := rq.Decode(2, 2, pieces[:2]...)
	if err != api.OK || !same(decoded, symbols[:2]) || !same(symbols, [][]byte{{1, 2}, {3, 4}, {9, 9, 9}}) || room[2] != 77 {
		t.Error("what was handed in has changed", symbols, decoded, err)
	}
	if esis[0] != 1 || esis[1] != 0 || esis[2] != 5 || esis[3] != 66 || pieces[0].Esi != 1 || string(pieces[1].Data) != "\x01\x02" {
		t.Error("numbers or pieces have changed", esis, pieces)
	}
	lists := append(append(append(append([][]byte{row}, rows...), inner...), decoded...), symbols...)
	for _, p := range pieces {
		lists = append(lists, p.Data)
	}
	if !apart(lists...) {
		t.Error("an answer shares memory")
	}
}
