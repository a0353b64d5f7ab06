package hand

import (
	"slices"

	"portage/api"
	"portage/num"
	"portage/params"
)

// Kinds of messages.
const (
	hello  = 1
	answer = 2
	terms  = 3
	done   = 4
)

// maxBody is how many bytes a message's body has at most.
const maxBody = 400

// comes tells the kinds of the messages that come in a space, in order.
func comes(role, space int) []byte {
	switch {
	case role == api.Server && space == api.Initial:
		return []byte{hello}
	case role == api.Server:
		return []byte{done}
	case space == api.Initial:
		return []byte{answer}
	}
	return []byte{terms, done}
}

// most tells how many bytes the body of a message has at most.
func most(kind byte) uint64 {
	if kind == hello || kind == terms {
		return maxBody
	}
	return 0
}

// message is the end's own message of a kind, as bytes. No call below can refuse: the terms were looked at in New, and a length is a number.
func (h *Hand) message(kind byte) []byte {
	var body []byte
	if kind == hello || kind == terms {
		body, _ = params.Encode(h.own)
	}
	size, _ := num.Put(uint64(len(body)))
	return slices.Concat([]byte{kind}, size, body)
}

// tell lets messages stand in the end's stream of a space; of one that was dropped they are nowhere.
func (h *Hand) tell(space int, kinds ...byte) {
	s := h.side(space)
	if s == nil {
		return
	}
	for _, kind := range kinds {
		s.own.Write(h.message(kind))
	}
}
