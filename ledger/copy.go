package ledger

import "portage/api"

// copied is a packet of the same words that shares nothing with the other one.
func copied(s api.Sent) api.Sent {
	s.Frames = list(s.Frames)
	for i := range s.Frames {
		f := &s.Frames[i]
		f.Data, f.Runs = list(f.Data), list(f.Runs)
	}
	return s
}

// list is a list of the same elements in new memory.
func list[T any](l []T) []T {
	if len(l) == 0 {
		return nil
	}
	c := make([]T, len(l))
	copy(c, l)
	return c
}
