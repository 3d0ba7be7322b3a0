package script

import "flotilla/api"

// opField is the letter of a step's op, the last of its fields, since its words are as many as it needs; the letters of its numbers are their names.
const opField = 'O'

// form is how a step of one kind is said: a word, and behind it what each letter stands for.
type form struct{ word, fields string }

// forms has a row for the 0, too, which is no kind.
var forms = [api.StSettle + 1]form{
	api.StTick:    {"tick", "A"},
	api.StClock:   {"clock", "A"},
	api.StSubmit:  {"submit", "AO"},
	api.StAsk:     {"ask", "AKO"},
	api.StDeliver: {"deliver", "K"},
	api.StDrop:    {"drop", "K"},
	api.StDup:     {"dup", "K"},
	api.StFlip:    {"flip", "KXY"},
	api.StCrash:   {"crash", "A"},
	api.StStart:   {"start", "A"},
	api.StLook:    {"look", "A"},
	api.StRound:   {"round", ""},
	api.StSettle:  {"settle", "K"},
}

// number is where a step has the number of a letter.
func number(s *api.Step, letter rune) *int {
	switch letter {
	case 'A':
		return &s.A
	case 'K':
		return &s.K
	case 'X':
		return &s.X
	}
	return &s.Y
}

const (
	headWord    = "fleet"
	headNumbers = 10
)

// numbers is where a config has its numbers, in the order in which the head says them.
func numbers(c *api.Config) [headNumbers]*int {
	return [headNumbers]*int{
		&c.N, &c.Clients, &c.Beat, &c.Again, &c.Patience,
		&c.Cap, &c.Retry, &c.Every, &c.Log, &c.Batch,
	}
}
