package lin_test

import (
	"bytes"
	"math"
	"math/rand"
	"testing"
	"unsafe"

	"rill/api"
	"rill/gf"
	"rill/lin"
)

// rank is counted by plain elimination, column by column.
func rank(cols int, rows [][]byte) int {
	var left [][]byte
	for _, row := range rows {
		left = append(left, bytes.Clone(row))
	}
	count := 0
	for col := 0; col < cols; col++ {
		for i, row := range left {
			if row[col] == 0 {
				continue
			}
			left = append(left[:i:i], left[i+1:]...)
			inverse, _ := gf.Inv(row[col])
			for j, other := range left {
				left[j] = gf.Add(other, gf.Scale(gf.Mul(inverse, other[col]), row))
			}
			count++
			break
		}
	}
	return count
}

func randomBytes(r *rand.Rand, n int) []byte {
	b := make([]byte, n)
	r.Read(b)
	return b
}

func randomLists(r *rand.Rand, count, length int) [][]byte {
	lists := make([][]byte, count)
	for i := range lists {
		lists[i] = randomBytes(r, length)
	}
	return lists
}

// sums are rows out of a few others, so that the rank is small.
func sums(r *rand.Rand, count int, of [][]byte) [][]byte {
	rows := make([][]byte, count)
	for i := range rows {
		rows[i] = gf.Mix(randomBytes(r, len(of)), of...)
	}
	return rows
}

func same(a, b [][]byte) bool {
	if len(a) != len(b) {
		return false
	}
	for i := range a {
		if !bytes.Equal(a[i], b[i]) {
			return false
		}
	}
	return true
}

func TestExamples(t *testing.T) {
	if n, err := lin.Rank(2, []byte{1, 1}, []byte{2, 2}); n != 1 || err != api.OK {
		t.Error("Rank", n, err)
	}
	rows, values := [][]byte{{1, 1}, {0, 2}}, [][]byte{{3}, {4}}
	if xs, err := lin.Solve(2, rows, values); err != api.OK || !same(xs, [][]byte{{1}, {2}}) {
		t.Error("Solve", xs, err)
	}
	rows, values = append(rows, []byte{1, 1}), append(values, []byte{9})
	if xs, err := lin.Solve(2, rows, values); err != api.ErrClash || len(xs) != 0 {
		t.Error("Solve of what contradicts itself", xs, err)
	}
	values[2] = []byte{3}
	if xs, err := lin.Solve(2, rows, values); err != api.OK || !same(xs, [][]byte{{1}, {2}}) {
		t.Error("Solve of a row met twice", xs, err)
	}
}

func TestRankOfSmallSystems(t *testing.T) {
	for _, c := range []struct {
		cols int
		rows [][]byte
		want int
	}{
		{1, nil, 0},
		{128, nil, 0},
		{1, [][]byte{{0}}, 0},
		{1, [][]byte{{0}, {200}, {7}}, 1},
		{3, [][]byte{{0, 0, 0}, {0, 0, 0}}, 0},
		{3, [][]byte{{0, 0, 5}, {0, 7, 0}}, 2},
		{3, [][]byte{{0, 0, 5}, {0, 7, 0}, {0, 7, 5}}, 2},
		{3, [][]byte{{1, 2, 3}, {2, 4, 6}, {3, 6, 5}}, 1},
		{2, [][]byte{{1, 2}, {2, 1}, {1, 1}}, 2},
	} {
		if got, err := lin.Rank(c.cols, c.rows...); got != c.want || err != api.OK {
			t.Errorf("Rank(%d, %v) = %d, %v", c.cols, c.rows, got, err)
		}
	}
}

func TestRankOfManySystems(t *testing.T) {
	r := rand.New(rand.NewSource(1))
	for round := 0; round < 300; round++ {
		cols := 1 + r.Intn(12)
		rows := sums(r, r.Intn(16), randomLists(r, 1+r.Intn(cols), cols))
		if got, err := lin.Rank(cols, rows...); got != rank(cols, rows) || err != api.OK {
			t.Fatalf("Rank(%d, %v) = %d, %v, not %d", cols, rows, got, err, rank(cols, rows))
		}
	}
}

func TestTheGreatestSystem(t *testing.T) {
	r := rand.New(rand.NewSource(2))
	rows := sums(r, 256, randomLists(r, 100, 128))
	if got, err := lin.Rank(128, rows...); got != 100 || err != api.OK {
		t.Error("Rank", got, err)
	}
	rows, xs := randomLists(r, 256, 128), randomLists(r, 128, 3)
	values, err := lin.Apply(128, rows, xs)
	if err != api.OK || len(values) != 256 {
		t.Fatal("Apply", len(values), err)
	}
	if got, err := lin.Solve(128, rows, values); err != api.OK || !same(got, xs) {
		t.Error("Solve", err)
	}
}

func TestShapes(t *testing.T) {
	wide := func(n int) [][]byte { return [][]byte{make([]byte, n)} }
	long := make([][]byte, 257)
	for i := range long {
		long[i] = []byte{1}
	}
	for _, c := range []struct {
		cols int
		rows [][]byte
		want api.Errno
	}{
		{0, nil, api.ErrShape},
		{-1, nil, api.ErrShape},
		{math.MinInt64, nil, api.ErrShape},
		{math.MaxInt64, nil, api.ErrShape},
		{0, [][]byte{{}}, api.ErrShape},
		{129, nil, api.ErrShape},
		{129, wide(129), api.ErrShape},
		{128, wide(128), api.OK},
		{128, wide(127), api.ErrShape},
		{1, wide(1), api.OK},
		{2, [][]byte{{1, 1}, {1}}, api.ErrShape},
		{2, [][]byte{{1, 1}, {1, 1, 1}}, api.ErrShape},
		{2, [][]byte{{1, 1}, nil}, api.ErrShape},
		{1, [][]byte{{1}, {1}, {1}, {}}, api.ErrShape},
		{1, long[:256], api.OK},
		{1, long, api.ErrShape},
	} {
		if n, err := lin.Rank(c.cols, c.rows...); err != c.want || err != api.OK && n != 0 {
			t.Errorf("Rank of %d cols, %d rows: %d, %v", c.cols, len(c.rows), n, err)
		}
		few := min(max(c.cols, 0), 200)
		xs := make([][]byte, few)
		if values, err := lin.Apply(c.cols, c.rows, xs); err != c.want || err != api.OK && len(values) != 0 {
			t.Errorf("Apply of %d cols, %d rows: %v, %v", c.cols, len(c.rows), values, err)
		}
		want := c.want
		if n, _ := lin.Rank(c.cols, c.rows...); want == api.OK && n < c.cols {
			want = api.ErrRank
		}
		if xs, err := lin.Solve(c.cols, c.rows, make([][]byte, len(c.rows))); err != want || err != api.OK && len(xs) != 0 {
			t.Errorf("Solve of %d cols, %d rows: %v, %v, not %v", c.cols, len(c.rows), xs, err, want)
		}
	}
}

func TestApply(t *testing.T) {
	for _, c := range []struct {
		cols     int
		rows, xs [][]byte
		want     [][]byte
		err      api.Errno
	}{
		{2, [][]byte{{1, 1}, {0, 2}}, [][]byte{{1, 5}, {2, 128}}, [][]byte{{3, 133}, {4, 29}}, api.OK},
		{2, nil, [][]byte{{1}, {2}}, nil, api.OK},
		{2, [][]byte{{1, 1}}, [][]byte{nil, {}}, [][]byte{nil}, api.OK},
		{2, [][]byte{{0, 0}}, [][]byte{{1, 2}, {3, 4}}, [][]byte{{0, 0}}, api.OK},
		{2, [][]byte{{1, 1}}, [][]byte{{1}}, nil, api.ErrShape},
		{2, [][]byte{{1, 1}}, [][]byte{{1}, {2}, {3}}, nil, api.ErrShape},
		{2, [][]byte{{1, 1}}, nil, nil, api.ErrShape},
		{2, [][]byte{{1, 1}}, [][]byte{{1}, {2, 3}}, nil, api.ErrShape},
		{2, [][]byte{{1, 1}}, [][]byte{{1, 2}, {2}}, nil, api.ErrShape},
		{2, [][]byte{{1, 1}}, [][]byte{{1}, nil}, nil, api.ErrShape},
		{2, nil, [][]byte{{1}, nil}, nil, api.ErrShape},
	} {
		if got, err := lin.Apply(c.cols, c.rows, c.xs); err != c.err || !same(got, c.want) {
			t.Errorf("Apply(%d, %v, %v) = %v, %v", c.cols, c.rows, c.xs, got, err)
		}
	}
}

func TestSolve(t *testing.T) {
	for _, c := range []struct {
		cols         int
		rows, values [][]byte
		want         [][]byte
		err          api.Errno
	}{
		{1, [][]byte{{2}}, [][]byte{{4, 29}}, [][]byte{{2, 128}}, api.OK},
		{2, [][]byte{{0, 1}, {1, 0}}, [][]byte{{7}, {8}}, [][]byte{{8}, {7}}, api.OK},
		{2, [][]byte{{0, 0}, {0, 1}, {1, 0}}, [][]byte{{0}, {7}, {8}}, [][]byte{{8}, {7}}, api.OK},
		{2, [][]byte{{0, 0}, {0, 1}, {1, 0}}, [][]byte{{1}, {7}, {8}}, nil, api.ErrClash},
		{2, [][]byte{{0, 1}, {1, 0}}, [][]byte{{}, nil}, [][]byte{{}, {}}, api.OK},
		{2, [][]byte{{0, 1}, {1, 0}, {1, 1}}, [][]byte{{7, 0}, {8, 0}, {15, 1}}, nil, api.ErrClash},
		{1, nil, nil, nil, api.ErrRank},
		{2, [][]byte{{1, 1}, {2, 2}}, [][]byte{{1}, {2}}, nil, api.ErrRank},
		{2, [][]byte{{1, 1}, {2, 2}}, [][]byte{{1}, {1}}, nil, api.ErrRank},
		{2, [][]byte{{0, 0}}, [][]byte{{1}}, nil, api.ErrRank},
		{2, [][]byte{{0, 1}, {1, 0}}, [][]byte{{7}}, nil, api.ErrShape},
		{2, [][]byte{{0, 1}, {1, 0}}, [][]byte{{7}, {8}, {9}}, nil, api.ErrShape},
		{2, [][]byte{{0, 1}, {1, 0}}, [][]byte{{7}, {8, 9}}, nil, api.ErrShape},
		{2, [][]byte{{0, 1}, {1, 0}}, [][]byte{{7, 8}, {9}}, nil, api.ErrShape},
		{2, [][]byte{{0, 1}, {1, 0}}, [][]byte{{7}, nil}, nil, api.ErrShape},
		{2, [][]byte{{1, 1}, {2, 2}}, [][]byte{{1}, {}}, nil, api.ErrShape},
		{2, [][]byte{{1, 1}}, nil, nil, api.ErrShape},
	} {
		if got, err := lin.Solve(c.cols, c.rows, c.values); err != c.err || !same(got, c.want) {
			t.Errorf("Solve(%d, %v, %v) = %v, %v", c.cols, c.rows, c.values, got, err)
		}
	}
}

func TestSolveOfManySystems(t *testing.T) {
	r := rand.New(rand.NewSource(3))
	met := map[api.Errno]int{}
	for round := 0; round < 600; round++ {
		cols := 1 + r.Intn(9)
		rows := sums(r, r.Intn(14), randomLists(r, max(1, cols-r.Intn(2)), cols))
		xs := randomLists(r, cols, 1+r.Intn(4))
		values, _ := lin.Apply(cols, rows, xs)
		want := api.OK
		if rank(cols, rows) < cols {
			want = api.ErrRank
		} else if len(rows) > cols && round%2 == 0 {
			want = api.ErrClash
		}
		if round%2 == 0 && len(rows) > 0 {
			spoil(r, cols, rows, values)
		}
		got, err := lin.Solve(cols, rows, values)
		met[err]++
		if err == api.OK && round%2 == 0 { // as many rows as columns: any values have their xs
			xs = got
			again, _ := lin.Apply(cols, rows, got)
			if !same(again, values) {
				t.Fatalf("Solve(%d, %v, %v) = %v", cols, rows, values, got)
			}
		}
		if err != want || err == api.OK && !same(got, xs) || err != api.OK && len(got) != 0 {
			t.Fatalf("Solve(%d, %v, %v) = %v, %v, not %v, %v", cols, rows, values, got, err, xs, want)
		}
	}
	if met[api.OK] < 50 || met[api.ErrRank] < 50 || met[api.ErrClash] < 50 {
		t.Error("the sweep is one-sided", met)
	}
}

// spoil turns a bit of the value of a row that others make up, if there is such a row; else of any.
func spoil(r *rand.Rand, cols int, rows, values [][]byte) {
	for i := range rows {
		others := append(append([][]byte{}, rows[:i]...), rows[i+1:]...)
		if rank(cols, others) == rank(cols, rows) {
			values[i][r.Intn(len(values[i]))] ^= 1 << r.Intn(8)
			return
		}
	}
	values[0][0] ^= 1
}

// apart: does no list share memory with another, spare room included?
func apart(lists ...[]byte) bool {
	for i, a := range lists {
		for _, b := range lists[:i] {
			x, y := uintptr(unsafe.Pointer(unsafe.SliceData(a))), uintptr(unsafe.Pointer(unsafe.SliceData(b)))
			if x < y+uintptr(cap(b)) && y < x+uintptr(cap(a)) {
				return false
			}
		}
	}
	return true
}

func TestListsAreLeftAndAnswersAreNew(t *testing.T) {
	row := []byte{1, 1, 77, 78}
	value := []byte{3, 66, 67}
	rows, values := [][]byte{row[:2], {0, 2}, {5}}, [][]byte{value[:1], {4}, {6}}
	lin.Rank(2, rows[:2]...)
	ys, _ := lin.Apply(2, rows[:2], values[:2])
	xs, _ := lin.Solve(2, rows[:2], values[:2])
	if !same(xs, [][]byte{{1}, {2}}) || !same(ys, [][]byte{{7}, {8}}) {
		t.Error("Solve, Apply", xs, ys)
	}
	if !same([][]byte{row, value, rows[1], values[1]}, [][]byte{{1, 1, 77, 78}, {3, 66, 67}, {0, 2}, {4}}) {
		t.Error("what was handed in has changed", row, value, rows, values)
	}
	if len(rows) != 3 || !same(rows[2:], [][]byte{{5}}) || !same(values[2:], [][]byte{{6}}) {
		t.Error("the rows have changed", rows, values)
	}
	if !apart(append(append(append(append([][]byte{}, xs...), ys...), rows...), values...)...) {
		t.Error("an answer shares memory")
	}
}
