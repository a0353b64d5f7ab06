package hand

import (
	"portage/api"
	"portage/params"
)

// What became of a byte of an end's own stream.
const (
	neverTold = iota
	underWay
	wasLost
	wasAcked
)

// A reading is a second reading of the chapter's words, byte by byte.
type reading struct {
	role    int
	terms   []byte
	bytes   [2][]byte         // its own streams
	fate    [2][]int          // what became of each byte of them
	came    [2]map[int64]byte // what has come, at which offset
	upTo    [2]int64
	count   [2]int // messages that were taken
	dropped [2]bool
	kinds   [5]bool // which kinds of messages it has taken
	peer    api.Params
	hasPeer bool
}

func newReading(role int, own api.Params) *reading {
	r := &reading{role: role, came: [2]map[int64]byte{{}, {}}}
	r.terms, _ = params.Encode(own)
	if role == api.Client {
		r.stand(0, append([]byte{1, byte(len(r.terms))}, r.terms...))
	}
	return r
}

func (r *reading) stand(space int, b []byte) {
	if !r.dropped[space] {
		r.bytes[space] = append(r.bytes[space], b...)
		r.fate[space] = append(r.fate[space], make([]int, len(b))...)
	}
}

func (r *reading) open(space int) bool {
	switch space {
	case 0:
		return !r.dropped[0]
	case 1:
		return !r.dropped[1] && (r.role == api.Client && r.kinds[2] || r.role == api.Server && r.kinds[1])
	case 2:
		return r.kinds[4]
	}
	return false
}

func (r *reading) inside(space int) bool { return space == 0 || space == 1 }

// number reads a number whose first byte is at off; false, if it isn't there.
func (r *reading) number(space int, off int64) (v uint64, size int64, ok bool) {
	first, there := r.came[space][off]
	if !there {
		return 0, 0, false
	}
	size = 1 << (first >> 6)
	v = uint64(first & 0x3f)
	for i := int64(1); i < size; i++ {
		b, there := r.came[space][off+i]
		if !there {
			return 0, 0, false
		}
		v = v*256 + uint64(b)
	}
	return v, size, true
}

// due is the kind that is due in a space; -1: none.
func (r *reading) due(space int) int {
	rows := map[[2]int][]int{{api.Client, 0}: {2}, {api.Client, 1}: {3, 4}, {api.Server, 0}: {1}, {api.Server, 1}: {4}}
	row := rows[[2]int{r.role, space}]
	if r.count[space] < len(row) {
		return row[r.count[space]]
	}
	return -1
}

func (r *reading) take(space int, f api.Frame) api.Code {
	if !r.inside(space) || f.Kind != api.KCrypto || f.Offset < 0 {
		return api.CodeProtocol
	}
	if r.dropped[space] || !r.open(space) {
		return api.CodeNone
	}
	bound := r.upTo[space] + 4096
	if f.Offset > bound || f.Offset+int64(len(f.Data)) > bound {
		return api.CodeCrypto
	}
	for i, b := range f.Data {
		if _, there := r.came[space][f.Offset+int64(i)]; !there {
			r.came[space][f.Offset+int64(i)] = b
		}
	}
	for {
		kind, there := r.came[space][r.upTo[space]]
		if !there {
			return api.CodeNone
		}
		if int(kind) != r.due(space) {
			return api.CodeHand
		}
		length, size, there := r.number(space, r.upTo[space]+1)
		if !there {
			return api.CodeNone
		}
		if length > 400 || length > 0 && (kind == 2 || kind == 4) {
			return api.CodeHand
		}
		var body []byte
		for i := range int64(length) {
			b, there := r.came[space][r.upTo[space]+1+size+i]
			if !there {
				return api.CodeNone
			}
			body = append(body, b)
		}
		if kind == 1 || kind == 3 {
			p, err := params.Decode(body)
			if err != api.OK {
				return api.CodeParams
			}
			r.peer, r.hasPeer = p, true
		}
		r.kinds[kind] = true
		r.count[space]++
		r.upTo[space] += 1 + size + int64(length)
		if kind == 1 {
			r.stand(0, []byte{2, 0})
			r.stand(1, append(append([]byte{3, byte(len(r.terms))}, r.terms...), 4, 0))
		}
		if kind == 4 && r.role == api.Client {
			r.stand(1, []byte{4, 0})
		}
	}
}

// first is the first of a space's own bytes that has this fate; -1: there is none.
func (r *reading) first(space, fate int) int {
	for i, x := range r.fate[space] {
		if x == fate {
			return i
		}
	}
	return -1
}

func (r *reading) waits(space int) bool {
	return r.inside(space) && !r.dropped[space] && (r.first(space, wasLost) >= 0 || r.first(space, neverTold) >= 0)
}

func (r *reading) next(space, room int) (int64, []byte, bool) {
	if !r.waits(space) || room < 6 {
		return 0, nil, false
	}
	fate := wasLost
	if r.first(space, wasLost) < 0 {
		fate = neverTold
	}
	from := r.first(space, fate)
	to := from
	for to < len(r.fate[space]) && r.fate[space][to] == fate && to-from < room-5 {
		r.fate[space][to] = underWay
		to++
	}
	return int64(from), r.bytes[space][from:to], true
}

// became tells what became of bytes of the end's own.
func (r *reading) became(space int, f api.Frame, fate int) {
	if !r.inside(space) || r.dropped[space] || f.Kind != api.KCrypto || f.Size < 1 {
		return
	}
	for i := range r.fate[space] {
		off := int64(i)
		// Below the end, told without a sum that may leave 64 bits.
		if off < f.Offset || f.Offset >= 0 && off-f.Offset >= f.Size || f.Offset < 0 && off >= f.Offset+f.Size {
			continue
		}
		if x := r.fate[space][i]; x != neverTold && x != wasAcked {
			r.fate[space][i] = fate
		}
	}
}

func (r *reading) drop(space int) {
	if r.inside(space) {
		r.dropped[space] = true
	}
}

func (r *reading) held() int64 {
	n := int64(0)
	for space := range 2 {
		if r.dropped[space] {
			continue
		}
		at := 0
		for at < len(r.fate[space]) && r.fate[space][at] == wasAcked {
			at++
		}
		n += int64(len(r.fate[space]) - at)
		for off := range r.came[space] {
			if off >= r.upTo[space] {
				n++
			}
		}
	}
	return n
}
