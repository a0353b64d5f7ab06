package hand

import (
	"slices"

	"portage/api"
	"portage/recv"
	"portage/send"
)

// ownRoom is how many bytes an end's own stream has at most: those of TERMS with the longest body, and of DONE.
const ownRoom = 1 + 2 + maxBody + 2

// A side is what there is of a space: the end's own messages, and those that come.
type side struct {
	own  *send.Send
	came *recv.Recv
	row  []byte // what came without a gap behind the messages that were taken
	upTo int64  // the end of the last of these
	due  []byte // the kinds of those that are still to come
}

// newSide gives one at its beginning. Neither New can refuse: both bounds are ones that may be.
func newSide(due []byte) *side {
	own, _ := send.New(ownRoom)
	came, _ := recv.New(api.MaxCrypto)
	return &side{own: own, came: came, due: due}
}

// put puts bytes to those that came; false, if they go too far.
func (s *side) put(off int64, data []byte) bool {
	if _, err := s.came.Take(off, data, false); err != api.OK {
		return false
	}
	more, _ := s.came.Read(api.MaxCrypto)
	s.row = append(s.row, more...)
	return true
}

// pass goes on behind the message that is next, which has n bytes: so much more may come.
func (s *side) pass(n int) {
	s.row = slices.Delete(s.row, 0, n)
	s.due = s.due[1:]
	s.upTo += int64(n)
	s.came.Raise(s.upTo + api.MaxCrypto)
}

// held tells how many bytes are held.
func (s *side) held() int64 {
	own := s.own.View()
	return own.Written - own.Base + int64(len(s.row)) + s.came.View().Held
}
