package disk_test

import (
	"bytes"
	"math"
	"math/rand"
	"slices"
	"testing"
	"unsafe"

	"rill/api"
	"rill/disk"
)

func fresh(t *testing.T, slots, power int) *disk.Disk {
	t.Helper()
	d, err := disk.New(slots, power)
	if err != api.OK || d == nil {
		t.Fatalf("New(%d, %d): %v", slots, power, err)
	}
	return d
}

// fine fails the test where a call has an error.
func fine(t *testing.T, errs ...api.Errno) {
	t.Helper()
	for i, err := range errs {
		if err != api.OK {
			t.Errorf("the call %d: %v", i, err)
		}
	}
}

func reads(t *testing.T, d *disk.Disk, log string, slots ...string) {
	t.Helper()
	if got := string(d.Log()); got != log {
		t.Errorf("the log is %q, not %q", got, log)
	}
	for i, want := range slots {
		if got, err := d.Read(i); err != api.OK || string(got) != want {
			t.Errorf("the slot %d is %q, %v, not %q", i, got, err, want)
		}
	}
}

func TestNew(t *testing.T) {
	for _, n := range []int{0, -1, 513, math.MinInt64, math.MaxInt64} {
		if d, err := disk.New(n, -1); d != nil || err != api.ErrConfig {
			t.Errorf("New of %d slots: %v", n, err)
		}
	}
	for _, n := range []int{1, 2, 512} {
		d := fresh(t, n, 0)
		if d.Slots() != n {
			t.Errorf("Slots: %d, not %d", d.Slots(), n)
		}
		reads(t, d, "", make([]string, n)...)
	}
}

func TestExamples(t *testing.T) {
	d := fresh(t, 2, -1)
	fine(t, d.Append('a', 'b', 'c'), d.SyncLog(), d.Append([]byte("de")...))
	reads(t, d.Left(api.Fate{Keep: 1}, -1), "abcd")
	fine(t, d.Write(0, []byte("abcd")), d.SyncSlots(), d.Write(0, []byte("wxyz")))
	reads(t, d.Left(api.Fate{Slots: []int{2}}, -1), "abc", "wxcd")
	fine(t, d.Lay([]byte("q")))
	reads(t, d.Left(api.Fate{Keep: 9}, -1), "abc")
	reads(t, d.Left(api.Fate{Keep: 9, Reset: true}, -1), "q")
}

func TestLogThatIsLeft(t *testing.T) {
	d := fresh(t, 1, -1)
	left := func(keep int, reset bool, want string) {
		t.Helper()
		reads(t, d.Left(api.Fate{Keep: keep, Reset: reset}, -1), want)
	}
	fine(t, d.Append(), d.Append([]byte("ab")...), d.Append('c'))
	reads(t, d, "abc")
	left(0, false, "")
	left(0, true, "")
	left(2, false, "ab")
	left(2, true, "ab")
	left(-1, true, "")
	left(math.MinInt64, false, "")
	left(3, false, "abc")
	left(4, false, "abc")
	left(math.MaxInt64, true, "abc")
	fine(t, d.SyncLog())
	left(0, false, "abc")
	left(-5, true, "abc")
	fine(t, d.Append([]byte("de")...))
	left(1, true, "abcd")
	left(0, true, "abc")
	fine(t, d.Lay([]byte("x")), d.Append([]byte("yz")...))
	reads(t, d, "xyz")
	left(9, false, "abc")
	left(0, false, "abc")
	left(0, true, "x")
	left(-1, true, "x")
	left(1, true, "xy")
	left(2, true, "xyz")
	left(99, true, "xyz")
	fine(t, d.Lay([]byte("long")), d.Append('1'), d.Lay(nil), d.Append([]byte("23")...))
	reads(t, d, "23")
	left(99, false, "abc")
	left(0, true, "")
	left(1, true, "2")
	fine(t, d.SyncLog())
	left(0, false, "23")
	left(0, true, "23")
	fine(t, d.Append('4'))
	left(1, false, "234")
	left(0, true, "23")
	fine(t, d.Lay([]byte("23")), d.SyncLog(), d.Append('5'), d.Lay([]byte("6")))
	left(1, false, "23")
	left(1, true, "6")
}

func TestSlotsThatAreLeft(t *testing.T) {
	d := fresh(t, 5, -1)
	left := func(want []string, fates ...int) {
		t.Helper()
		reads(t, d.Left(api.Fate{Slots: fates}, -1), "", want...)
	}
	fine(t, d.Write(1, []byte("abcd")), d.Write(3, []byte("efg")))
	left([]string{"", "", "", "", ""})
	left([]string{"", "", "", "", ""}, 0)
	left([]string{"", "abcd", "", "efg", ""}, 1)
	left([]string{"", "ab", "", "e", ""}, 2)
	left([]string{"", "abcd", "", "e", ""}, 1, 2)
	left([]string{"", "", "", "efg", ""}, 0, 1, 2)
	fine(t, d.SyncSlots())
	left([]string{"", "abcd", "", "efg", ""}, 0)
	// The order is that of the slots, not of the calls; a slot that isn't written has no fate.
	fine(t, d.Write(4, []byte("4")), d.Write(3, []byte("wxyz")), d.Write(0, []byte("uv")), d.Write(3, []byte("WXYZ!")))
	left([]string{"", "abcd", "", "efg", ""})
	left([]string{"uv", "abcd", "", "WXg", "4"}, 1, 2)
	left([]string{"u", "abcd", "", "WXg", ""}, 2)
	left([]string{"", "abcd", "", "WXYZ!", ""}, 0, 1)
	left([]string{"", "abcd", "", "WXYZ!", ""}, 3, 4, 6)
	left([]string{"u", "abcd", "", "WXYZ!", ""}, -1, -2, -3)
	left([]string{"u", "abcd", "", "efg", "4"}, math.MaxInt64-2, math.MinInt64+2, math.MaxInt64)
	// What is written anew counts, though it be the same.
	fine(t, d.SyncSlots(), d.Write(1, []byte("abcd")), d.Write(3, nil))
	left([]string{"uv", "abcd", "", "", "4"}, 0, 1)
	left([]string{"uv", "abcd", "", "WXYZ!", "4"}, 1, 2)
	fine(t, d.Write(1, []byte("A")), d.Write(3, []byte("longer than it was")))
	left([]string{"uv", "abcd", "", "longer th", "4"}, 2)
	reads(t, d, "", "uv", "A", "", "longer than it was", "4")
}

func TestWrongSlots(t *testing.T) {
	d := fresh(t, 3, 1)
	for _, slot := range []int{-1, 3, 512, math.MinInt64, math.MaxInt64} {
		if err := d.Write(slot, make([]byte, 65)); err != api.ErrSlot {
			t.Errorf("Write of the slot %d: %v", slot, err)
		}
		if b, err := d.Read(slot); err != api.ErrSlot || len(b) != 0 {
			t.Errorf("Read of the slot %d: %v, %v", slot, b, err)
		}
		if err := d.Rot(slot, -1); err != api.ErrSlot {
			t.Errorf("Rot of the slot %d: %v", slot, err)
		}
	}
	for _, slot := range []int{0, 2} {
		if err := d.Write(slot, make([]byte, 65)); err != api.ErrLength {
			t.Errorf("Write of 65 bytes: %v", err)
		}
	}
	fine(t, d.Write(2, make([]byte, 64))) // the power is still there
	if err := d.Write(2, nil); err != api.ErrDown {
		t.Error("Write without power:", err)
	}
	if a, b := d.Write(3, nil), d.Write(2, make([]byte, 65)); a != api.ErrSlot || b != api.ErrLength {
		t.Error("wrong Writes without power:", a, b)
	}
	reads(t, d, "", "", "", string(make([]byte, 64)))
}

func TestPower(t *testing.T) {
	calls := []func(*disk.Disk) api.Errno{
		func(d *disk.Disk) api.Errno { return d.Append([]byte("a")...) },
		func(d *disk.Disk) api.Errno { return d.Append() },
		func(d *disk.Disk) api.Errno { return d.Lay([]byte("l")) },
		func(d *disk.Disk) api.Errno { return d.SyncLog() },
		func(d *disk.Disk) api.Errno { return d.Write(0, []byte("w")) },
		func(d *disk.Disk) api.Errno { return d.SyncSlots() },
	}
	for first, call := range calls {
		for power := 0; power < 4; power++ {
			d := fresh(t, 1, power)
			for i := 0; i < 6; i++ {
				want := api.OK
				if i >= power {
					want = api.ErrDown
				}
				if err := call(d); err != want {
					t.Errorf("the call %d, the time %d of %d: %v", first, i, power, err)
				}
				d.Log()
				d.Read(0)
				d.Slots()
				d.Rot(0, 0)
				d.Left(api.Fate{}, 0)
			}
		}
		d := fresh(t, 1, 2) // another call uses it up
		fine(t, d.SyncLog(), d.SyncSlots())
		if err := call(d); err != api.ErrDown {
			t.Errorf("the call %d without power: %v", first, err)
		}
		reads(t, d, "", "")
		for _, power := range []int{-1, -7, math.MinInt64, math.MaxInt64} {
			d := fresh(t, 1, power)
			for i := 0; i < 50; i++ {
				fine(t, call(d))
			}
		}
	}
}

func TestWithoutPowerNothingIsDone(t *testing.T) {
	d := fresh(t, 2, 4)
	fine(t, d.Append([]byte("ab")...), d.SyncLog(), d.Append([]byte("cd")...), d.Write(0, []byte("x")))
	for _, err := range []api.Errno{d.Append('e'), d.Lay([]byte("l")), d.SyncLog(), d.Write(0, []byte("y")), d.Write(1, []byte("z")), d.SyncSlots()} {
		if err != api.ErrDown {
			t.Error("without power:", err)
		}
	}
	reads(t, d, "abcd", "x", "")
	// A sync and a Lay that did nothing don't count.
	reads(t, d.Left(api.Fate{Keep: 1, Slots: []int{1}}, -1), "abc", "x", "")
	reads(t, d.Left(api.Fate{}, -1), "ab", "", "")
	fine(t, d.Rot(0, 0))
	reads(t, d, "abcd", "y", "")
}

func TestRot(t *testing.T) {
	d := fresh(t, 2, -1)
	for _, bit := range []int{0, 1, -1, 8} {
		if err := d.Rot(0, bit); err != api.ErrLength {
			t.Errorf("Rot of the bit %d of an empty slot: %v", bit, err)
		}
	}
	safe := []byte{1, 2, 3}
	fine(t, d.Write(0, safe), d.SyncSlots())
	for _, bit := range []int{-1, 24, 25, math.MinInt64, math.MaxInt64} {
		if err := d.Rot(0, bit); err != api.ErrLength {
			t.Errorf("Rot of the bit %d: %v", bit, err)
		}
	}
	for bit := 0; bit < 24; bit++ {
		fine(t, d.Rot(0, bit))
		safe[bit/8] ^= 1 << (bit % 8)
		reads(t, d, "", string(safe), "")
		reads(t, d.Left(api.Fate{}, -1), "", string(safe), "")
		reads(t, d.Left(api.Fate{Slots: []int{1}}, -1), "", string(safe), "")
	}
	// Both what is read and what is safe are turned, each where it has the byte.
	fine(t, d.Write(0, []byte{0, 0, 0, 0, 0}), d.Rot(0, 1), d.Rot(0, 39))
	safe[0] ^= 2
	reads(t, d, "", "\x02\x00\x00\x00\x80")
	reads(t, d.Left(api.Fate{}, -1), "", string(safe))
	fine(t, d.Write(0, []byte{7}), d.Rot(0, 7))
	safe[0] ^= 128
	reads(t, d, "", "\x87")
	reads(t, d.Left(api.Fate{}, -1), "", string(safe))
	if err := d.Rot(0, 8); err != api.ErrLength {
		t.Error("Rot of a bit that is safe alone:", err)
	}
	// A turned slot isn't one that was written.
	fine(t, d.SyncSlots(), d.Rot(0, 0), d.Write(1, []byte("b")))
	reads(t, d.Left(api.Fate{Slots: []int{1, 0}}, -1), "", "\x86", "b")
}

// events is a disk as a row of what happened: what is left is told of the whole row.
type events struct {
	slots int
	log   []string // "a..." was appended, "l..." was laid, "s" made safe
	cells []cell
}

type cell struct {
	slot int // -1: all were made safe
	b    []byte
	rot  bool
	bit  int
}

func (e *events) leftLog(f api.Fate) string {
	safe, base, tail, laid := "", "", "", false
	for _, x := range e.log {
		switch x[0] {
		case 'a':
			tail += x[1:]
		case 'l':
			base, tail, laid = x[1:], "", true
		case 's':
			if !laid {
				base = safe
			}
			safe, tail, laid = base+tail, "", false
		}
	}
	if laid && !f.Reset {
		return safe
	}
	if !laid {
		base = safe
	}
	return base + tail[:min(max(f.Keep, 0), len(tail))]
}

func (e *events) leftSlots(f api.Fate) []string {
	safe, read, written := make([][]byte, e.slots), make([][]byte, e.slots), make([]bool, e.slots)
	for _, x := range e.cells {
		switch {
		case x.rot:
			read[x.slot][x.bit/8] ^= 1 << (x.bit % 8)
			if x.bit/8 < len(safe[x.slot]) {
				safe[x.slot][x.bit/8] ^= 1 << (x.bit % 8)
			}
		case x.slot < 0:
			for i := range read {
				safe[i], written[i] = bytes.Clone(read[i]), false
			}
		default:
			read[x.slot], written[x.slot] = bytes.Clone(x.b), true
		}
	}
	left := make([]string, e.slots)
	n := 0
	for i := range left {
		left[i] = string(safe[i])
		if !written[i] {
			continue
		}
		if len(f.Slots) > 0 {
			switch ((f.Slots[n%len(f.Slots)] % 3) + 3) % 3 {
			case 1:
				left[i] = string(read[i])
			case 2:
				half := len(read[i]) / 2
				left[i] = string(read[i][:half])
				if half < len(safe[i]) {
					left[i] += string(safe[i][half:])
				}
			}
		}
		n++
	}
	return left
}

func TestManyRowsOfCalls(t *testing.T) {
	r := rand.New(rand.NewSource(1))
	bytesOf := func(n int) []byte {
		b := make([]byte, r.Intn(n))
		r.Read(b)
		return b
	}
	for round := 0; round < 300; round++ {
		e := &events{slots: 1 + r.Intn(6)}
		power := r.Intn(40) - 5
		d := fresh(t, e.slots, power)
		for step := 0; step < 40; step++ {
			down := power == 0
			used := true
			var err api.Errno
			slot, b := r.Intn(e.slots), bytesOf(9)
			switch r.Intn(12) {
			case 0, 1, 2:
				if err = d.Append(b...); !down {
					e.log = append(e.log, "a"+string(b))
				}
			case 3:
				if err = d.Lay(b); !down {
					e.log = append(e.log, "l"+string(b))
				}
			case 4, 5:
				if err = d.SyncLog(); !down {
					e.log = append(e.log, "s")
				}
			case 6, 7, 8:
				if err = d.Write(slot, b); !down {
					e.cells = append(e.cells, cell{slot: slot, b: b})
				}
			case 9:
				if err = d.SyncSlots(); !down {
					e.cells = append(e.cells, cell{slot: -1})
				}
			default:
				used = false
				if now, _ := d.Read(slot); len(now) > 0 {
					bit := r.Intn(8 * len(now))
					fine(t, d.Rot(slot, bit))
					e.cells = append(e.cells, cell{slot: slot, rot: true, bit: bit})
				}
			}
			if used && (err == api.ErrDown) != down || err != api.OK && err != api.ErrDown {
				t.Fatalf("the power %d: %v", power, err)
			}
			if used && power > 0 {
				power--
			}
			f := api.Fate{Keep: r.Intn(24) - 2, Reset: r.Intn(2) == 0}
			for range r.Intn(4) {
				f.Slots = append(f.Slots, r.Intn(9)-4)
			}
			reads(t, d.Left(f, 0), e.leftLog(f), e.leftSlots(f)...)
			if t.Failed() {
				t.Fatalf("round %d, step %d, %+v, %q", round, step, f, e.log)
			}
		}
	}
}

func TestLeftIsADiskOfItsOwn(t *testing.T) {
	d := fresh(t, 2, -1)
	fine(t, d.Append([]byte("ab")...), d.SyncLog(), d.Append([]byte("cd")...), d.Write(0, []byte("xx")), d.SyncSlots(), d.Write(0, []byte("yyyy")))
	f := api.Fate{Keep: 1, Slots: []int{1, 7}}
	left := d.Left(f, 3)
	if left.Slots() != 2 || f.Slots[0] != 1 || f.Slots[1] != 7 {
		t.Error("Left", left.Slots(), f)
	}
	reads(t, left, "abc", "yyyy", "")
	reads(t, left.Left(api.Fate{}, 0), "abc", "yyyy", "") // all of it is safe
	fine(t, left.Append('z'), left.Write(1, []byte("l")), left.Rot(0, 0), left.SyncLog())
	if err := left.SyncSlots(); err != api.ErrDown {
		t.Error("behind its power:", err)
	}
	fine(t, d.Rot(0, 1), d.Append('e'))
	reads(t, left, "abcz", "xyyy", "l")
	reads(t, d, "abcde", "{yyy", "")
	reads(t, d.Left(api.Fate{Keep: 9}, 0), "abcde", "zx")
	again := left.Left(api.Fate{}, 0)
	if err := again.Append('q'); err != api.ErrDown {
		t.Error("Left with the power 0:", err)
	}
	fine(t, d.Append('f')) // its own power is still there
	for fate, want := range []string{"}x", "|yyy", "|y"} {
		one := d.Left(api.Fate{Slots: []int{fate}}, -1)
		fine(t, one.Rot(0, 0), one.Rot(0, 1), one.Rot(0, 2))
		two := one.Left(api.Fate{}, -1)
		fine(t, two.Rot(0, 3))
		before, _ := d.Read(0)
		if string(before) != "{yyy" {
			t.Errorf("the fate %d: the disk that was left reads %q", fate, before)
		}
		reads(t, one, "abcde"[:len(one.Log())], want)
	}
}

// apart: does no list share memory with another, spare room included?
func apart(lists ...[]byte) bool {
	for i, a := range lists {
		for _, b := range lists[:i] {
			x, y := uintptr(unsafe.Pointer(unsafe.SliceData(a))), uintptr(unsafe.Pointer(unsafe.SliceData(b)))
			if x < y+uintptr(cap(b)) && y < x+uintptr(cap(a)) {
				return false
			}
		}
	}
	return true
}

func TestListsAreLeftAndAnswersAreNew(t *testing.T) {
	d := fresh(t, 2, -1)
	room := []byte("log-behind")
	a, b, c := room[:3], []byte("laid"), []byte("slot")
	var answers [][]byte
	read := func() {
		slot, _ := d.Read(0)
		answers = append(answers, d.Log(), slot)
	}
	fine(t, d.Append(a...), d.Write(0, c))
	read()
	fine(t, d.SyncLog(), d.SyncSlots(), d.Append(a...))
	read()
	fine(t, d.Lay(b), d.Append(a...))
	read()
	if string(room) != "log-behind" || string(b) != "laid" || string(c) != "slot" {
		t.Error("what was handed in has changed", room, b, c)
	}
	if !apart(append(slices.Clone(answers), room, b, c)...) {
		t.Error("an answer shares memory")
	}
	for _, list := range append(answers, room, b, c) {
		list = list[:cap(list)]
		for i := range list {
			list[i] = '?'
		}
	}
	reads(t, d, "laidlog", "slot", "")
	again := []byte("laid")
	fine(t, d.Lay(again), d.Write(1, again))
	clear(again)
	reads(t, d, "laid", "slot", "laid")
	fine(t, d.Lay([]byte("laidlog")))
	reads(t, d.Left(api.Fate{}, 0), "log", "slot", "")
	fine(t, d.Append('!'), d.SyncLog(), d.Append('?'))
	reads(t, d.Left(api.Fate{}, 0), "laidlog!", "slot", "")
}
