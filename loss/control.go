package loss

import (
	"portage/api"
	"portage/cubic"
	"portage/reno"
)

// controller says how much may be under way: which one it is matters to nobody but newController.
type controller interface {
	Sent(size int64)
	Acked(now, sent, size int64, limited bool)
	Lost(size int64)
	Dropped(size int64)
	Event(now, sent int64) bool
	Collapse()
	May(size int64) bool
	View() api.Window
}

// newController makes one for datagrams of at most so many bytes.
func newController(mtu int, curved bool) (controller, api.Errno) {
	if curved {
		c, err := cubic.New(mtu)
		return c, err
	}
	c, err := reno.New(mtu)
	return c, err
}
