package timers

import "flotilla/api"

// Backoff is patience that doubles up to a cap.
type Backoff struct {
	base, most int
	now        int // from base to most
}

// NewBackoff is one that begins at the base.
func NewBackoff(base, most int) (*Backoff, api.Errno) {
	switch {
	case !mayWait(base), most > api.MaxTicks:
		return nil, api.ErrTimerTicks
	case most < base:
		return nil, api.ErrTimerCap
	}
	return &Backoff{base: base, most: most, now: base}, api.OK
}

// Next tells the present patience, and doubles it.
func (b *Backoff) Next() int {
	now := b.now
	b.now = min(2*now, b.most)
	return now
}

// Now tells it.
func (b *Backoff) Now() int { return b.now }

// Reset lets it begin anew.
func (b *Backoff) Reset() { b.now = b.base }

// Clone is one that goes its own way.
func (b *Backoff) Clone() *Backoff {
	twin := *b
	return &twin
}
