package msg

import (
	"slices"

	"rill/api"
)

// writer puts the parts of a message behind one another.
type writer struct{ bytes []byte }

// number has the byte of the least weight first.
func (w *writer) number(n, width int) {
	for range width {
		w.bytes = append(w.bytes, byte(n))
		n >>= 8
	}
}

// text is bytes that have their length ahead of them.
func (w *writer) text(b []byte) {
	w.number(len(b), 1)
	w.bytes = append(w.bytes, b...)
}

func (w *writer) message(m api.Msg) {
	w.number(m.Kind, 1)
	w.number(m.From, 1)
	w.number(m.To, 1)
	w.number(m.Op, 4)
	w.number(m.Code, 4)
	w.text([]byte(m.Key))
	w.meta(m.Meta)
	w.number(len(m.Syms), 2)
	for _, s := range m.Syms {
		w.number(s.Block, 2)
		w.number(s.Esi, 3)
		w.text(s.Data)
	}
	w.number(len(m.Items), 1)
	for _, i := range m.Items {
		w.text([]byte(i.Key))
		w.meta(i.Meta)
	}
}

func (w *writer) meta(m api.Meta) {
	w.number(m.Tag.N, 4)
	w.number(m.Size, 4)
	w.number(m.Tag.Client, 1)
	w.number(m.T, 1)
	dead := 0
	if m.Dead {
		dead = 1
	}
	w.number(dead, 1)
	w.text(m.Sum)
}

// reader takes the parts of a message one after the other.
type reader struct {
	rest []byte
	// short tells that more was asked for than there is.
	short bool
}

func (r *reader) take(n int) []byte {
	if n > len(r.rest) {
		r.short = true
		return nil
	}
	taken := r.rest[:n]
	r.rest = r.rest[n:]
	return taken
}

func (r *reader) number(width int) int {
	n := 0
	for _, b := range slices.Backward(r.take(width)) {
		n = n<<8 | int(b)
	}
	return n
}

func (r *reader) text() []byte { return slices.Clone(r.take(r.number(1))) }

// list: so many parts, each read in the same way.
func list[T any](r *reader, count int, read func() T) []T {
	var parts []T
	for range count {
		if r.short {
			break
		}
		parts = append(parts, read())
	}
	return parts
}

func (r *reader) message() api.Msg {
	return api.Msg{
		Kind:  r.number(1),
		From:  r.number(1),
		To:    r.number(1),
		Op:    r.number(4),
		Code:  r.number(4),
		Key:   string(r.text()),
		Meta:  r.meta(),
		Syms:  list(r, r.number(2), r.sym),
		Items: list(r, r.number(1), r.item),
	}
}

func (r *reader) meta() api.Meta {
	var m api.Meta
	m.Tag.N = r.number(4)
	m.Size = r.number(4)
	m.Tag.Client = r.number(1)
	m.T = r.number(1)
	m.Dead = r.number(1) == 1
	m.Sum = r.text()
	return m
}

func (r *reader) sym() api.Sym {
	return api.Sym{Block: r.number(2), Esi: r.number(3), Data: r.text()}
}

func (r *reader) item() api.Item {
	return api.Item{Key: string(r.text()), Meta: r.meta()}
}
