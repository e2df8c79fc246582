package match

import (
	"cmp"
	"slices"
	"sort"
	"unicode/utf8"

	"galley/api"
)

// A sign is a step as one number: its rune, or, of a bad one, its byte behind all runes. So bad bytes and runes stand in spans alike.
const (
	badSign  = utf8.MaxRune + 1
	firstBad = badSign + 0x80
	lastSign = badSign + 0xFF
)

// signOf: of a step and the byte with which it begins.
func signOf(s api.Step, first byte) rune {
	if s.Whole {
		return s.Rune
	}
	return badSign + rune(first)
}

// span is all signs from the first to the last.
type span struct{ first, last rune }

func just(sign rune) span { return span{sign, sign} }

// ofRunes: are there no bad bytes in it?
func (s span) ofRunes() bool { return s.last <= utf8.MaxRune }

// set is spans that rise and don't touch.
type set []span

func setOf(spans []span) set {
	slices.SortFunc(spans, func(a, b span) int { return cmp.Compare(a.first, b.first) })
	var all set
	for _, s := range spans {
		if n := len(all); n > 0 && s.first <= all[n-1].last+1 {
			all[n-1].last = max(all[n-1].last, s.last)
		} else {
			all = append(all, s)
		}
	}
	return all
}

// others: all signs that are not in it.
func (s set) others() set {
	var all set
	free := rune(0)
	for _, in := range s {
		if free < in.first {
			all = append(all, span{free, in.first - 1})
		}
		free = in.last + 1
	}
	if free <= lastSign {
		all = append(all, span{free, lastSign})
	}
	return all
}

func (s set) has(sign rune) bool {
	i := sort.Search(len(s), func(i int) bool { return sign <= s[i].last })
	return i < len(s) && s[i].first <= sign
}
