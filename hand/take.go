package hand

import (
	"portage/api"
	"portage/num"
	"portage/params"
)

// Take takes what the other end's crypto frame brings (H3).
func (h *Hand) Take(space int, f api.Frame) api.Code {
	if !streamed(space) || f.Kind != api.KCrypto || f.Offset < 0 {
		return api.CodeProtocol
	}
	if !h.Open(space) {
		return api.CodeNone
	}
	if !h.sides[space].put(f.Offset, f.Data) {
		return api.CodeCrypto
	}
	for {
		taken, code := h.read(space)
		if !taken {
			return code
		}
	}
}

// read takes the message that is next in a space, if it is there whole and is as it may be; else it tells what is wrong with it, as far as it is there.
func (h *Hand) read(space int) (taken bool, code api.Code) {
	s := h.sides[space]
	if len(s.row) == 0 {
		return false, api.CodeNone
	}
	kind := s.row[0]
	if len(s.due) == 0 || kind != s.due[0] {
		return false, api.CodeHand
	}
	size, at, err := num.Get(s.row, 1)
	if err != api.OK {
		return false, api.CodeNone
	}
	if size > most(kind) {
		return false, api.CodeHand
	}
	end := at + int(size)
	if end > len(s.row) {
		return false, api.CodeNone
	}
	if code := h.heed(space, kind, s.row[at:end]); code != api.CodeNone {
		return false, code
	}
	s.pass(end)
	return true, api.CodeNone
}

// heed does what a message brings about, nothing where its terms can't be read. What it lets stand in the end's own streams waits till that is known.
func (h *Hand) heed(space int, kind byte, body []byte) api.Code {
	opens := false // the space behind this one
	var stands [api.App][]byte
	switch kind {
	case hello:
		opens = true
		stands = [api.App][]byte{api.Initial: {answer}, api.Handshake: {terms, done}}
		fallthrough
	case terms:
		peer, err := params.Decode(body)
		if err != api.OK {
			return api.CodeParams
		}
		h.peer, h.known = peer, true
	case done:
		if h.role == api.Client {
			stands[api.Handshake] = []byte{done}
		}
		fallthrough
	case answer:
		opens = true
	}
	if opens {
		h.reached = space + 1
	}
	for to, kinds := range stands {
		h.tell(to, kinds...)
	}
	return api.CodeNone
}
