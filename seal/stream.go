package seal

import "flotilla/api"

// Stream finds datagrams in bytes that come in pieces.
type Stream struct {
	held  []byte   // from the place on at which it looks
	look  look     // at these
	found [][]byte // what waits
	lost  int
}

// NewStream is one that has taken nothing.
func NewStream() *Stream { return &Stream{look: newLook()} }

// Feed takes bytes.
func (s *Stream) Feed(b []byte) {
	all, place := append(s.held, b...), 0
looking:
	for {
		for _, c := range all[place+s.look.taken:] {
			switch {
			case !s.look.take(c):
				s.lost++
				place++
			case s.look.isWhole():
				body := cut(all[place:], headBytes, s.look.size)
				s.found = append(s.found, copied(body.bytes))
				place += s.look.taken
			default:
				continue
			}
			s.look = newLook()
			continue looking
		}
		break
	}
	s.hold(all, place)
}

// hold keeps the bytes from a place on, and lets the memory of those ahead of it go.
func (s *Stream) hold(b []byte, place int) {
	if place > 0 {
		b = copied(b[place:])
	}
	s.held = b
}

// Next tells the next payload, if one is whole.
func (s *Stream) Next() ([]byte, bool) {
	if len(s.found) == 0 {
		return nil, false
	}
	payload := s.found[0]
	s.found[0] = nil
	s.found = s.found[1:]
	return payload, true
}

// Lost tells how many bytes were let by.
func (s *Stream) Lost() int { return s.lost }

// Held tells how many bytes wait.
func (s *Stream) Held() int { return len(s.held) }

// look is what the bytes that were taken from a place on have told so far: it is kept, so that those that are held need not be gone through again when more come.
type look struct {
	taken    int
	size     int    // the payload's, as far as it was told
	register uint32 // of the sum that comes next
}

func newLook() look { return look{register: fresh} }

// take tells whether the bytes, with one more, are still the beginning of a datagram.
func (l *look) take(c byte) bool {
	at := l.taken
	l.taken++
	end := headBytes + l.size
	switch {
	case at < leadBytes:
		l.register = mixed(l.register, c)
		return l.takeLead(c, at)
	case at < headBytes:
		right := c == byteOf(^l.register, at-leadBytes)
		if l.taken == headBytes {
			l.register = fresh
		}
		return right
	case at < end:
		l.register = mixed(l.register, c)
		return true
	}
	return c == byteOf(^l.register, at-end)
}

func (l *look) takeLead(c byte, at int) bool {
	if at < len(mark) {
		return c == mark[at]
	}
	l.size |= sizeBits(c, at)
	return l.size <= api.MaxPayload
}

func (l *look) isWhole() bool { return l.taken == frameBytes+l.size }
