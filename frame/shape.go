package frame

import "portage/api"

const (
	// with is what a type is greater by with Marks, Uni or Own.
	with = 1

	// What the bits of a stream frame's type tell.
	bitFin    = 0x01
	bitCount  = 0x02
	bitOffset = 0x04

	mostPadding = 65535
	mostStreams = 1 << 60
	eight       = 8
)

// A part is what stands behind a frame's type.
type part int

const (
	noPart part = iota
	partStream
	partOffset
	partLimit
	partStreams // a limit of streams, not of bytes
	partCode
	partSize
	partDelay
	partLargest
	partRuns // how many are behind the first, and their lengths and gaps
	partCounts
	partData  // how many bytes, and they
	partTail  // bytes up to the end
	partEight // eight bytes
	partZeros // further bytes 00
)

// parts are those of a frame, in their order; there may be noPart among them.
type parts [4]part

// shapeOf tells of a type the frame as far as the type alone makes it, and the frame's parts; false, if there is no such type.
func shapeOf(kind int64) (f api.Frame, p parts, known bool) {
	f.Kind = int(kind)
	switch kind {
	case api.KPadding:
		p = parts{partZeros}
	case api.KPing, api.KDone:
	case api.KAck:
		p = parts{partLargest, partDelay, partRuns}
	case api.KAck + with:
		f.Kind, f.Marks = api.KAck, true
		p = parts{partLargest, partDelay, partRuns, partCounts}
	case api.KReset:
		p = parts{partStream, partCode, partSize}
	case api.KStop:
		p = parts{partStream, partCode}
	case api.KCrypto:
		p = parts{partOffset, partData}
	case 0x08, 0x09, 0x0a, 0x0b, 0x0c, 0x0d, 0x0e, 0x0f:
		f, p = streamShape(kind)
	case api.KMaxData, api.KDataBlocked:
		p = parts{partLimit}
	case api.KMaxStreamData, api.KStreamDataBlocked:
		p = parts{partStream, partLimit}
	case api.KMaxStreams + with, api.KStreamsBlocked + with:
		f.Kind, f.Uni = int(kind-with), true
		fallthrough
	case api.KMaxStreams, api.KStreamsBlocked:
		p = parts{partStreams}
	case api.KChallenge, api.KResponse:
		p = parts{partEight}
	case api.KClose:
		p = parts{partCode, partSize, partData}
	case api.KClose + with:
		f.Kind, f.Own = api.KClose, true
		p = parts{partCode, partData}
	default:
		return api.Frame{}, parts{}, false
	}
	return f, p, true
}

// streamShape is shapeOf, of a stream frame's types.
func streamShape(kind int64) (api.Frame, parts) {
	f := api.Frame{Kind: api.KStream, Fin: kind&bitFin != 0}
	p := parts{partStream, noPart, partData}
	if kind&bitOffset != 0 {
		p[1] = partOffset
	}
	if kind&bitCount == 0 {
		f.Tail = true
		p[2] = partTail
	}
	return f, p
}

// typeOf tells the type by which a frame of a kind of the table is written.
func typeOf(f api.Frame) int64 {
	kind := int64(f.Kind)
	switch f.Kind {
	case api.KStream:
		kind += streamBits(f)
	case api.KAck:
		kind += oneIf(f.Marks)
	case api.KMaxStreams, api.KStreamsBlocked:
		kind += oneIf(f.Uni)
	case api.KClose:
		kind += oneIf(f.Own)
	}
	return kind
}

func streamBits(f api.Frame) int64 {
	return oneIf(f.Offset > 0)*bitOffset + oneIf(!f.Tail)*bitCount + oneIf(f.Fin)*bitFin
}

func oneIf(holds bool) int64 {
	if holds {
		return 1
	}
	return 0
}

// isKind tells whether a kind is one of the table: a type that is not greater by what stands beside the kind.
func isKind(kind int) bool {
	f, _, known := shapeOf(int64(kind))
	return known && f.Kind == kind
}

// field is where a part stands that is one number of the frame.
func field(f *api.Frame, p part) *int64 {
	switch p {
	case partStream:
		return &f.Stream
	case partOffset:
		return &f.Offset
	case partLimit, partStreams:
		return &f.Limit
	case partCode:
		return &f.Code
	case partDelay:
		return &f.Delay
	}
	return &f.Size
}

// most is the greatest number that such a part may be.
func most(p part) int64 {
	if p == partStreams {
		return mostStreams
	}
	return api.MaxNumber
}
