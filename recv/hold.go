package recv

import (
	"cmp"
	"slices"
	"sort"

	"portage/api"
	"portage/runs"
)

// A piece is bytes that came, from an offset on. Of the first one that is held some may have been read.
type piece struct {
	off  int64
	data []byte
}

func (p piece) end() int64 { return p.off + int64(len(p.data)) }

// own copies bytes into memory that is just as long.
func own(data []byte) []byte {
	p := make([]byte, len(data))
	copy(p, data)
	return p
}

// place tells which is the first piece that begins at an offset or behind it.
func (r *Recv) place(off int64) int {
	return sort.Search(len(r.held), func(i int) bool { return r.held[i].off >= off })
}

// hold keeps what hasn't come yet of some bytes, each stretch of it apart. All of them are laid between the others at once: one by one each would move all that are behind it.
func (r *Recv) hold(off int64, data []byte) {
	end := off + int64(len(data))
	i, j := r.place(off), r.place(end)
	among := slices.Clone(r.held[i:j])
	for _, hole := range r.taken.Holes(off, end-1) {
		among = append(among, piece{off: hole.Lo, data: own(data[hole.Lo-off : hole.Hi+1-off])})
	}
	slices.SortFunc(among, func(a, b piece) int { return cmp.Compare(a.off, b.off) })
	r.held = slices.Replace(r.held, i, j, among...)
	r.taken.Add(off, end-1)
}

// row tells how many bytes stand in a row from Read on, at most most of them.
func (r *Recv) row(most int64) int64 {
	n := int64(0)
	for _, p := range r.held {
		if n >= most || p.off > r.read+n {
			break
		}
		n = p.end() - r.read
	}
	return max(min(n, most), 0)
}

// join puts the next n bytes together, which are held.
func (r *Recv) join(n int64) []byte {
	data := make([]byte, n)
	at := 0
	for _, p := range r.held {
		if at == len(data) {
			break
		}
		at += copy(data[at:], p.data[max(r.read-p.off, 0):])
	}
	return data
}

// release lets the bytes below Read go: whole pieces, and the beginning of the first that is left once that is half of it: so a byte is copied a few times at most, however little is read at once.
func (r *Recv) release() {
	n := 0
	for n < len(r.held) && r.held[n].end() <= r.read {
		n++
	}
	clear(r.held[:n])
	r.held = r.held[n:]
	if len(r.held) == 0 {
		r.held = nil
		return
	}
	first := &r.held[0]
	if gone := r.read - first.off; 2*gone >= int64(len(first.data)) {
		*first = piece{off: r.read, data: own(first.data[gone:])}
	}
}

// drop lets all go that is held.
func (r *Recv) drop() {
	r.held = nil
	r.taken = runs.Of(api.Run{Lo: 0, Hi: r.read - 1})
}
