package conn

import (
	"portage/api"
	"portage/frame"
	"portage/packet"
)

// A draft is a packet that is put together.
type draft struct {
	packet    api.Packet // without its payload
	frames    []api.Frame
	left      int // bytes of the datagram, behind the packets ahead
	room      int // bytes that there are still for frames
	eliciting bool
}

// newDraft gives one without frames, where so many bytes are left.
func newDraft(p api.Packet, left int) *draft {
	// No error can come: space, ids and width are ones that may be.
	ahead, _ := packet.Overhead(p)
	return &draft{packet: p, left: left, room: left - ahead}
}

// add puts in a frame that fits.
func (d *draft) add(f api.Frame) {
	// No error can come: each layer tells frames that may be.
	n, _ := frame.Size(f)
	d.room -= n
	d.frames = append(d.frames, f)
	d.eliciting = d.eliciting || frame.Eliciting(f)
}

// addIf puts in a frame, if it fits.
func (d *draft) addIf(f api.Frame) bool {
	n, _ := frame.Size(f)
	if n > d.room {
		return false
	}
	d.add(f)
	return true
}

// size is how many bytes the packet has, without padding.
func (d *draft) size() int {
	return d.left - d.room
}

// finished is the packet with its payload.
func (d *draft) finished() api.Packet {
	p := d.packet
	p.Payload, _ = frame.Join(d.frames...)
	return p
}

// sent is what loss is told of the packet, which has so many bytes in the datagram.
func (d *draft) sent(size int) api.Sent {
	s := api.Sent{Size: int64(size), Eliciting: d.eliciting, Counted: d.eliciting || size > d.size(), Told: -1}
	for _, f := range d.frames {
		if f.Kind == api.KAck {
			s.Told = f.Runs[0].Hi
		}
		if k, is := frame.Keep(f); is {
			s.Frames = append(s.Frames, k)
		}
	}
	return s
}
