package frame

import (
	"portage/api"
	"portage/num"
)

// tell gives what a frame is written as: numbers, and behind them bytes as they are (no kind has a number behind its bytes).
func tell(f api.Frame) ([]int64, []byte, api.Errno) {
	if !isKind(f.Kind) {
		return nil, nil, api.ErrFrameKind
	}
	kind := typeOf(f)
	bare, l, _ := shapeOf(kind)
	if !mayBe(f, bare, l) {
		return nil, nil, api.ErrFrameField
	}
	numbers := append(make([]int64, 0, 8+2*len(f.Runs)), kind)
	rest := f.Data
	for _, p := range l {
		switch p {
		case noPart, partTail, partEight:
		case partZeros:
			rest = make([]byte, f.Size-1)
		case partLargest:
			numbers = append(numbers, f.Runs[0].Hi)
		case partRuns:
			numbers = appendRuns(numbers, f.Runs)
		case partCounts:
			numbers = append(numbers, f.Counts[:]...)
		case partData:
			numbers = append(numbers, int64(len(f.Data)))
		default:
			numbers = append(numbers, *field(&f, p))
		}
	}
	return numbers, rest, api.OK
}

func appendRuns(numbers []int64, l []api.Run) []int64 {
	numbers = append(numbers, int64(len(l)-1))
	for i, r := range l {
		if i > 0 {
			numbers = append(numbers, l[i-1].Lo-r.Hi-2)
		}
		numbers = append(numbers, r.Hi-r.Lo)
	}
	return numbers
}

// length is how many bytes they are, written.
func length(numbers []int64, rest []byte) int {
	n := len(rest)
	for _, v := range numbers {
		n += num.Size(uint64(v))
	}
	return n
}

// mayBe is F4, of a frame with these parts: each is in its bounds, and what is none of them is as in bare, the frame as its type alone makes it.
func mayBe(f, bare api.Frame, l parts) bool {
	rest := f
	for _, p := range l {
		if !fits(f, p) {
			return false
		}
		takeOut(&rest, p)
	}
	return len(rest.Data) == 0 && len(rest.Runs) == 0 && rest.Counts == bare.Counts &&
		rest.Stream == 0 && rest.Offset == 0 && rest.Size == 0 && rest.Limit == 0 && rest.Code == 0 && rest.Delay == 0 &&
		rest.Fin == bare.Fin && rest.Tail == bare.Tail && rest.Uni == bare.Uni && rest.Own == bare.Own && rest.Marks == bare.Marks
}

// fits tells whether a part is in its bounds.
func fits(f api.Frame, p part) bool {
	switch p {
	case noPart, partLargest:
		return true
	case partZeros:
		return f.Size >= 1 && f.Size <= mostPadding
	case partRuns:
		return areRuns(f.Runs)
	case partCounts:
		for _, v := range f.Counts {
			if !isNumber(v, api.MaxNumber) {
				return false
			}
		}
		return true
	case partData, partTail:
		return int64(len(f.Data)) <= api.MaxNumber-f.Offset
	case partEight:
		return len(f.Data) == eight
	}
	return isNumber(*field(&f, p), most(p))
}

func isNumber(v, most int64) bool {
	return v >= 0 && v <= most
}

// areRuns is F1.
func areRuns(l []api.Run) bool {
	for i, r := range l {
		if r.Lo < 0 || r.Lo > r.Hi || r.Hi > api.MaxNumber {
			return false
		}
		if i > 0 && r.Hi > l[i-1].Lo-2 {
			return false
		}
	}
	return len(l) > 0
}

// takeOut makes a part's field zero.
func takeOut(f *api.Frame, p part) {
	switch p {
	case noPart, partLargest:
	case partRuns:
		f.Runs = nil
	case partCounts:
		f.Counts = [3]int64{}
	case partData, partTail, partEight:
		f.Data = nil
	default:
		*field(f, p) = 0
	}
}
