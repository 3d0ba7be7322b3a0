package gate

import (
	"slices"
	"strconv"

	"flotilla/api"
	"flotilla/proxy"
	"flotilla/words"
)

// The words behind a line's number, where it is told what became of it.
const (
	refusedWord = "refused"
	doneWord    = "done"
	toldWord    = "told"
)

// nothing stands for the line of the wish under way, where none is.
const nothing = 0

// clerk is who stands behind the gate: the client, and the wishes that it does one behind the other.
type clerk struct {
	*proxy.Proxy
	underWay int    // the line of the wish that the client has begun
	waiting  []wish // only where one is under way
	told     []byte // lines that were not handed out yet
}

// hear takes a finished line; what the client says then.
func (c *clerk) hear(l line) []api.Msg {
	begin, e := c.read(l)
	switch {
	case e != api.OK:
		c.refuse(l.number, e)
	case begin == nil: // it has no word
	case len(c.waiting) == api.MaxWaiting:
		c.refuse(l.number, api.ErrGateBusy)
	default:
		c.waiting = append(c.waiting, wish{l.number, begin})
		return c.goOn()
	}
	return nil
}

// read tells what a line asks for: neither a wish nor an error, if it has no word.
func (c *clerk) read(l line) (beginning, api.Errno) {
	said, e := l.words()
	if e != api.OK || len(said) == 0 {
		return nil, e
	}
	return readWish(c.Proxy, said)
}

// goOn begins what waits, until something is under way.
func (c *clerk) goOn() []api.Msg {
	for c.underWay == nothing && len(c.waiting) > 0 {
		w := c.waiting[0]
		c.waiting = slices.Delete(c.waiting, 0, 1)
		says, e := w.begin()
		if e == api.OK {
			c.underWay = w.line
			return says
		}
		c.refuse(w.line, e)
	}
	return nil
}

// answer tells what the wish under way was answered; what the client says then.
func (c *clerk) answer(x api.Answer) []api.Msg {
	result, _ := words.Result(x.Result) // the client takes no result that may not be
	head := []string{doneWord, strconv.Itoa(x.Num)}
	if x.Ask {
		head = []string{toldWord, strconv.Itoa(x.Who), strconv.Itoa(x.Num)}
	}
	c.tell(c.underWay, append(head, result...)...)
	c.underWay = nothing
	return c.goOn()
}

func (c *clerk) refuse(line int, e api.Errno) {
	c.tell(line, refusedWord, strconv.Itoa(int(e)))
}

func (c *clerk) tell(line int, l ...string) {
	text := words.Join(append([]string{strconv.Itoa(line)}, l...))
	c.told = append(append(c.told, text...), lineFeed)
}
