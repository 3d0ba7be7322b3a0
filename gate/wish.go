package gate

import (
	"flotilla/api"
	"flotilla/proxy"
	"flotilla/words"
)

// The first words of a line.
const (
	submitWord = "submit"
	askWord    = "ask"
)

// beginning is how a wish begins: what the client says then, or why it refuses.
type beginning func() ([]api.Msg, api.Errno)

// wish is what a line asks for.
type wish struct {
	line  int
	begin beginning
}

type request struct {
	client *proxy.Proxy
	op     api.Op
}

type question struct {
	request
	who int
}

func (r request) begin() ([]api.Msg, api.Errno) { return r.client.Submit(r.op) }

func (q question) begin() ([]api.Msg, api.Errno) { return q.client.Ask(q.who, q.op) }

// readWish reads the words of a line, of which there is one at least.
func readWish(client *proxy.Proxy, said []string) (beginning, api.Errno) {
	switch said[0] {
	case submitWord:
		return readRequest(client, said[1:])
	case askWord:
		return readQuestion(client, said[1:])
	}
	return nil, api.ErrGateLine
}

func readRequest(client *proxy.Proxy, said []string) (beginning, api.Errno) {
	o, e := readOp(said)
	if e != api.OK {
		return nil, e
	}
	return request{client, o}.begin, api.OK
}

func readQuestion(client *proxy.Proxy, said []string) (beginning, api.Errno) {
	if len(said) == 0 {
		return nil, api.ErrWordsEnd
	}
	who, ok := words.Number(said[0])
	if !ok {
		return nil, api.ErrWordsWord
	}
	o, e := readOp(said[1:])
	if e != api.OK {
		return nil, e
	}
	return question{request{client, o}, who}.begin, api.OK
}

// readOp reads an op behind which nothing is left.
func readOp(said []string) (api.Op, api.Errno) {
	o, took, e := words.ReadOp(said)
	switch {
	case e != api.OK:
		return api.Op{}, e
	case took < len(said):
		return api.Op{}, api.ErrWordsMany
	}
	return o, api.OK
}
