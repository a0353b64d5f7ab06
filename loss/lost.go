package loss

import "portage/api"

const (
	passed  = 3 // a packet is lost if one of a number so much greater was acknowledged
	lasting = 3 // so many spans without anything that comes through are persistent congestion
)

// lose takes out what is lost in a space, and says what follows (P14.5).
func (l *Loss) lose(space int) []api.Sent {
	s := &l.spaces[space]
	lost := s.Lose(l.find(s)...)
	if len(lost) == 0 {
		return nil
	}
	for _, p := range lost {
		l.ctl.Lost(p.Size)
		l.tell(api.Event{Kind: api.EvLost, Space: space, Number: p.Number})
	}
	// Times rise with numbers: the last one's is the greatest.
	l.ctl.Event(l.clock, lost[len(lost)-1].Time)
	if l.lasts(s, lost) {
		l.ctl.Collapse()
		l.est.Restart()
		l.tell(api.Event{Kind: api.EvCollapse, Space: space})
	}
	return lost
}

// find tells the numbers that are lost in a space, and sets when others will be.
func (l *Loss) find(s *space) []int64 {
	delay := min(l.most, l.est.LossDelay())
	largest := s.View().Largest
	var numbers []int64
	s.loss = -1
	for p := range s.Kept() {
		if p.Number > largest {
			break
		}
		if p.Time <= l.clock-delay || p.Number <= largest-passed {
			numbers = append(numbers, p.Number)
		} else if s.loss < 0 {
			s.loss = p.Time + delay
		}
	}
	return numbers
}

// lasts tells whether what was lost is so far apart, with nothing acknowledged between, that congestion is persistent.
func (l *Loss) lasts(s *space, lost []api.Sent) bool {
	v := l.est.View()
	if !v.Has {
		return false
	}
	most := lasting * (l.est.Base() + l.putOff)
	since, last := int64(-1), int64(-1) // of those with nothing acknowledged between: the first one's Time, the last one's number
	for _, p := range lost {
		if !p.Eliciting || p.Time <= v.First {
			continue
		}
		if since < 0 || s.Told(last+1, p.Number-1) {
			since = p.Time
		}
		if p.Time-since > most {
			return true
		}
		last = p.Number
	}
	return false
}
