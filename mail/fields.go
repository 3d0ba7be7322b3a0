package mail

import (
	"strings"

	"flotilla/api"
	"flotilla/cargo"
	"flotilla/shelf"
)

// The letters of the fields.
const (
	viewField    = 'V'
	numField     = 'K' // an op's number is k in the document
	commitField  = 'C'
	normalField  = 'N'
	lifeField    = 'L'
	numberField  = 'Q' // of a request
	hasField     = 'H'
	opField      = 'O'
	resultField  = 'R'
	entriesField = 'E'
	cargoField   = 'G'
)

const allFields = "VKCNLQHOREG"

// fields tells what each kind has, in the order of its bytes; View comes first in it, and the numbers come ahead of the rest,
// so that it is the order of Check's errors too. It has a row for the 0, too, which is no kind: a reader reads it as one without fields.
var fields = [api.MsgTold + 1]string{
	api.MsgRequest:     "QO",
	api.MsgReply:       "VKQR",
	api.MsgBusy:        "VQ",
	api.MsgPrepare:     "VKCE",
	api.MsgPrepareOK:   "VK",
	api.MsgCommit:      "VKC",
	api.MsgStartChange: "V",
	api.MsgDoChange:    "VCNG",
	api.MsgStartView:   "VCG",
	api.MsgRecovery:    "VL",
	api.MsgRecovered:   "VCLHG",
	api.MsgGetState:    "VKC",
	api.MsgNewState:    "VCG",
	api.MsgAsk:         "KQO",
	api.MsgTold:        "KQR",
}

// hasCargo is asked of kinds with a cargo: a Recovered says by itself whether it has one.
func hasCargo(m *api.Msg) bool { return m.Kind != api.MsgRecovered || m.Has }

// has tells whether a message has a field.
func has(m *api.Msg, letter rune) bool {
	return strings.ContainsRune(fields[m.Kind], letter) && (letter != cargoField || hasCargo(m))
}

// checkFields is Check of a message whose kind there is.
func checkFields(m *api.Msg) api.Errno {
	for _, letter := range fields[m.Kind] {
		if has(m, letter) && !mayBe(m, letter) {
			return refusal(letter)
		}
	}
	for _, letter := range allFields {
		if !has(m, letter) && !isZero(m, letter) {
			return api.ErrMailExtra
		}
	}
	return api.OK
}

// refusal is the error of a message in which this field may not be.
func refusal(letter rune) api.Errno {
	switch letter {
	case viewField:
		return api.ErrMailView
	case numField, commitField, normalField, lifeField, numberField:
		return api.ErrMailNum
	}
	return api.ErrMailBody
}

// mayBe tells whether a field that a message has may be, as long as those ahead of it may be.
func mayBe(m *api.Msg, letter rune) bool {
	switch letter {
	case viewField:
		return within(m.View, 0, api.MaxView)
	case numField:
		return within(m.Num, leastNum(m.Kind), api.MaxOp)
	case commitField:
		return within(m.Commit, 0, api.MaxOp)
	case normalField:
		return within(m.Normal, 0, m.View)
	case lifeField:
		return within(m.Life, 1, api.MaxLife)
	case numberField:
		return within(m.Number, 1, api.MaxNumber)
	case opField:
		return shelf.Check(m.Op) == api.OK && (m.Kind != api.MsgAsk || shelf.Query(m.Op.Kind))
	case resultField:
		return shelf.CheckResult(m.Result) == api.OK
	case entriesField:
		return entriesMayBe(m)
	case cargoField:
		return cargo.Check(m.Cargo) == api.OK
	}
	return true // Has: either is a truth
}

// leastNum: the Num of a Prepare is that of its first entry, and no entry has the 0.
func leastNum(kind int) int {
	if kind == api.MsgPrepare {
		return 1
	}
	return 0
}

// entriesMayBe: a Prepare's entries follow one another from Num on, as those of a cargo do behind its Base.
func entriesMayBe(m *api.Msg) bool {
	return within(len(m.Entries), 1, api.MaxBatch) && cargo.Check(api.Cargo{Base: m.Num - 1, Entries: m.Entries}) == api.OK
}

// isZero tells whether nothing stands in a field.
func isZero(m *api.Msg, letter rune) bool {
	switch letter {
	case viewField:
		return m.View == 0
	case numField:
		return m.Num == 0
	case commitField:
		return m.Commit == 0
	case normalField:
		return m.Normal == 0
	case lifeField:
		return m.Life == 0
	case numberField:
		return m.Number == 0
	case hasField:
		return !m.Has
	case opField:
		return m.Op == api.Op{}
	case resultField:
		return m.Result.Code == 0 && m.Result.Num == 0 && len(m.Result.Items) == 0
	case entriesField:
		return len(m.Entries) == 0
	}
	return m.Cargo.From == 0 && m.Cargo.Base == 0 && len(m.Cargo.Sheets) == 0 && len(m.Cargo.Entries) == 0
}
