package story

import (
	"strconv"
	"strings"

	"flotilla/api"
	"flotilla/words"
)

// thingsWords are the words of things that are in form; the first op or result that may not be decides.
func thingsWords(l []any) ([]string, api.Errno) {
	var all []string
	for _, thing := range l {
		more, e := thingWords(thing)
		if e != api.OK {
			return nil, e
		}
		all = append(all, more...)
	}
	return all, api.OK
}

func thingWords(thing any) ([]string, api.Errno) {
	switch x := thing.(type) {
	case *int:
		return []string{strconv.Itoa(*x)}, api.OK
	case *api.Errno:
		return []string{strconv.Itoa(int(*x))}, api.OK
	case *bool:
		return []string{flagWord(*x)}, api.OK
	case status:
		return []string{statuses[*x.place]}, api.OK
	case *[]byte:
		return []string{dataWord(*x)}, api.OK
	case *api.Op:
		return words.Op(*x)
	case *api.Result:
		return words.Result(*x)
	case *api.Look:
		return thingsWords(lookThings(x))
	case *api.Sheet:
		return thingsWords(sheetThings(x))
	}
	return nil, api.ErrStoryLine // there is no other thing
}

func flagWord(fresh bool) string {
	if fresh {
		return freshWord
	}
	return oldWord
}

func dataWord(data []byte) string {
	var word strings.Builder
	for _, b := range data {
		word.WriteByte(hexDigits[b>>4])
		word.WriteByte(hexDigits[b&15])
	}
	return word.String()
}
