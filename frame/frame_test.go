package frame_test

import (
	"bytes"
	"hash/crc32"
	"math/rand"
	"slices"
	"testing"
	"unsafe"

	"rill/api"
	"rill/frame"
)

// framed is built by another program's check sum.
func framed(payload []byte) []byte {
	n := len(payload)
	b := append([]byte{90, byte(n >> 16), byte(n >> 8), byte(n)}, payload...)
	sum := crc32.ChecksumIEEE(b)
	return append(b, byte(sum>>24), byte(sum>>16), byte(sum>>8), byte(sum))
}

func message(length int) []byte {
	b := make([]byte, length)
	rand.New(rand.NewSource(int64(length))).Read(b)
	return b
}

func TestCheck(t *testing.T) {
	if got := frame.Check([]byte("123456789")); got != 3421780262 {
		t.Error("the chapter's example", got)
	}
	if got := frame.Check([]byte("1234"), nil, []byte("56"), []byte("789")); got != 3421780262 {
		t.Error("in parts", got)
	}
	if frame.Check() != 0 || frame.Check(nil, nil) != 0 {
		t.Error("of nothing", frame.Check())
	}
	for length := 0; length < 300; length++ {
		b := message(length)
		if got := frame.Check(b[:length/3], b[length/3:]); got != crc32.ChecksumIEEE(b) {
			t.Errorf("Check of %d bytes = %d", length, got)
		}
	}
	for b := 0; b < 256; b++ {
		if got := frame.Check([]byte{byte(b)}); got != crc32.ChecksumIEEE([]byte{byte(b)}) {
			t.Errorf("Check of the byte %d = %d", b, got)
		}
	}
}

func TestPack(t *testing.T) {
	for _, length := range []int{0, 1, 2, 255, 256, 257, 1000, 32767, 32768} {
		if got, err := frame.Pack(message(length)); err != api.OK || !bytes.Equal(got, framed(message(length))) {
			t.Errorf("Pack of %d bytes: %d, %v", length, len(got), err)
		}
	}
	for _, length := range []int{32769, 65536, 1 << 20} {
		if got, err := frame.Pack(message(length)); err != api.ErrLong || len(got) != 0 {
			t.Errorf("Pack of %d bytes: %d, %v", length, len(got), err)
		}
	}
	if got, err := frame.Pack(nil); len(got) != 8 || err != api.OK {
		t.Error("Pack of nothing", got, err)
	}
}

func TestNext(t *testing.T) {
	for _, length := range []int{0, 1, 5, 300, 32767, 32768} {
		f := framed(message(length))
		for _, behind := range [][]byte{nil, {0}, {90}, f} {
			payload, n, err := frame.Next(slices.Concat(f, behind))
			if err != api.OK || n != len(f) || !bytes.Equal(payload, message(length)) {
				t.Errorf("Next of %d bytes, %d behind: %d, %d, %v", length, len(behind), len(payload), n, err)
			}
		}
	}
}

func TestNextOfTheBeginningOfAFrame(t *testing.T) {
	for _, length := range []int{0, 1, 40} {
		f := framed(message(length))
		for n := range f {
			if payload, got, err := frame.Next(f[:n]); err != api.OK || got != 0 || len(payload) != 0 {
				t.Errorf("Next of %d of %d bytes: %v, %d, %v", n, len(f), payload, got, err)
			}
		}
	}
}

func TestNextOfWrongBytes(t *testing.T) {
	f := framed(message(40))
	for bit := range 8 * len(f) {
		b := bytes.Clone(f)
		b[bit/8] ^= 1 << (bit % 8)
		payload, n, err := frame.Next(b)
		long := len(b) < 8+(int(b[1])<<16|int(b[2])<<8|int(b[3]))
		want := api.ErrFrame
		if b[0] == 90 && long && int(b[1])<<16|int(b[2])<<8|int(b[3]) <= 32768 {
			want = api.OK // as if the end lacked
		}
		if err != want || n != 0 || len(payload) != 0 {
			t.Errorf("Next with the bit %d turned: %v, %d, %v, not %v", bit, payload, n, err, want)
		}
	}
	for _, c := range []struct {
		b    []byte
		want api.Errno
	}{
		{nil, api.OK},
		{[]byte{90}, api.OK},
		{[]byte{0}, api.ErrFrame},
		{[]byte{91, 0}, api.ErrFrame},
		{[]byte{89, 255, 255, 255}, api.ErrFrame},
		{[]byte{90, 255, 255}, api.OK},
		{[]byte{90, 255, 255, 255}, api.ErrFrame},
		{[]byte{90, 0, 128, 1}, api.ErrFrame},
		{[]byte{90, 1, 0, 0}, api.ErrFrame},
		{append([]byte{90, 128, 0, 0}, make([]byte, 100)...), api.ErrFrame},
		{[]byte{90, 0, 128, 0}, api.OK},
		{[]byte{90, 0, 0, 0}, api.OK},
		{make([]byte, 1000), api.ErrFrame},
		{framed(message(32769)), api.ErrFrame},
		{append([]byte{90, 0, 128, 1}, make([]byte, 40000)...), api.ErrFrame},
		{append([]byte{90, 0, 128, 0}, make([]byte, 32771)...), api.OK},
		{append([]byte{90, 0, 128, 0}, make([]byte, 32772)...), api.ErrFrame},
	} {
		if payload, n, err := frame.Next(c.b); err != c.want || n != 0 || len(payload) != 0 {
			t.Errorf("Next of %d bytes, %v: %v, %d, %v", len(c.b), c.b[:min(4, len(c.b))], payload, n, err)
		}
	}
}

func TestScan(t *testing.T) {
	payloads := [][]byte{message(3), nil, message(300), message(1)}
	var b []byte
	var ends []int
	for _, p := range payloads {
		b = append(b, framed(p)...)
		ends = append(ends, len(b))
	}
	scan := func(name string, b []byte, count int) {
		t.Helper()
		got, n := frame.Scan(b)
		want := 0
		if count > 0 {
			want = ends[count-1]
		}
		if len(got) != count || n != want {
			t.Errorf("%s: %d frames, %d bytes, not %d, %d", name, len(got), n, count, want)
			return
		}
		for i := range got {
			if !bytes.Equal(got[i], payloads[i]) {
				t.Errorf("%s: the payload %d is %v", name, i, got[i])
			}
		}
	}
	scan("nothing", nil, 0)
	scan("no frame", []byte("abc"), 0)
	for n := range len(b) + 1 {
		count := 0
		for count < len(ends) && ends[count] <= n {
			count++
		}
		scan("a beginning", b[:n], count)
	}
	scan("a byte 0 behind", append(bytes.Clone(b), 0), 4)
	scan("a torn frame behind", append(bytes.Clone(b), 90, 0, 0), 4)
	for at := range b {
		count := 0
		for ends[count] <= at {
			count++
		}
		torn := bytes.Clone(b)
		torn[at] ^= 128
		scan("a turned bit", torn, count)
	}
	if got, n := frame.Scan(append(append(framed([]byte("a")), framed([]byte("b"))...), 0)); len(got) != 2 || n != 18 {
		t.Error("the chapter's example", got, n)
	}
}

// apart: does no list share memory with another, spare room included?
func apart(lists ...[]byte) bool {
	for i, a := range lists {
		for _, b := range lists[:i] {
			x, y := uintptr(unsafe.Pointer(unsafe.SliceData(a))), uintptr(unsafe.Pointer(unsafe.SliceData(b)))
			if x < y+uintptr(cap(b)) && y < x+uintptr(cap(a)) {
				return false
			}
		}
	}
	return true
}

func TestListsAreLeftAndAnswersAreNew(t *testing.T) {
	room := []byte("payload-and-what-stands-behind")
	payload := room[:7]
	packed, _ := frame.Pack(payload)
	frame.Check(payload, room[7:9])
	two := append(append(make([]byte, 0, 100), packed...), packed...)
	before := string(two[:cap(two)])
	next, _, _ := frame.Next(two)
	payloads, _ := frame.Scan(two)
	if string(room) != "payload-and-what-stands-behind" || string(two[:cap(two)]) != before {
		t.Errorf("what was handed in has changed: %q, %q", room, two)
	}
	if string(next) != "payload" || len(payloads) != 2 || string(payloads[1]) != "payload" {
		t.Errorf("%q, %q", next, payloads)
	}
	if !apart(append([][]byte{room, packed, two, next}, payloads...)...) {
		t.Error("an answer shares memory")
	}
}
