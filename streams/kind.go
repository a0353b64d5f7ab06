package streams

// Kinds of streams.
const (
	twoWays = iota
	oneWay
	kinds
)

const (
	// An id is this many times the stream's place, and the bits beside it.
	perPlace  = 4
	bitServer = 1
	bitOneWay = 2

	// mostStreams is the greatest number of streams that a frame can tell.
	mostStreams = 1 << 60
)

func kindIf(uni bool) int {
	if uni {
		return oneWay
	}
	return twoWays
}

func idOf(place int64, role, kind int) int64 {
	return place*perPlace + int64(kind)*bitOneWay + int64(role)*bitServer
}

func kindOf(id int64) int { return kindIf(id&bitOneWay != 0) }

func placeOf(id int64) int64 { return id / perPlace }

func (s *Streams) isOurs(id int64) bool { return id&bitServer == int64(s.role)*bitServer }

// sends tells whether a stream has a sending part at this end.
func (s *Streams) sends(id int64) bool { return kindOf(id) == twoWays || s.isOurs(id) }

// receives tells whether it has a receiving part.
func (s *Streams) receives(id int64) bool { return kindOf(id) == twoWays || !s.isOurs(id) }

// limitOf tells with which limit a stream's sending part begins.
func (s *Streams) limitOf(id int64) int64 {
	switch {
	case kindOf(id) == oneWay:
		return s.their.StreamUni
	case s.isOurs(id):
		return s.their.StreamHis
	}
	return s.their.StreamOwn
}

// windowOf tells which window a stream's receiving part has.
func (s *Streams) windowOf(id int64) int64 {
	switch {
	case kindOf(id) == oneWay:
		return s.own.StreamUni
	case s.isOurs(id):
		return s.own.StreamOwn
	}
	return s.own.StreamHis
}

// raised is a limit where another one was told, of which no more than most counts.
func raised(limit, told, most int64) int64 {
	return max(limit, min(told, most))
}

// ours is what is known of the streams of a kind that this end opens.
type ours struct {
	opened  int64
	limit   int64 // theirs: how many may be opened in all
	blocked int64 // the limit at which Open was refused last; -1: none
	told    int64 // the limit that the last KStreamsBlocked told; -1: none, or it is to be told again
}

func newOurs() ours { return ours{blocked: -1, told: -1} }

func (o *ours) raise(limit int64) {
	o.limit = raised(o.limit, limit, mostStreams)
}

// waits tells whether a KStreamsBlocked does.
func (o *ours) waits() bool {
	return o.blocked == o.limit && o.told != o.limit
}

func (o *ours) lost(limit int64) {
	if limit == o.told {
		o.told = -1
	}
}

// theirs is what is known of the streams of a kind that the other end opens.
type theirs struct {
	opened int64
	first  int64 // our first limit, of which no frame told
	limit  int64 // ours: how many may be opened in all
	told   int64 // the limit that was told last; -1: it is to be told again
}

func newTheirs(limit int64) theirs {
	return theirs{first: limit, limit: limit, told: limit}
}

// waits tells whether a KMaxStreams does.
func (t *theirs) waits() bool { return t.limit > t.told }

func (t *theirs) lost(limit int64) {
	if limit == t.told && limit != t.first {
		t.told = -1
	}
}
