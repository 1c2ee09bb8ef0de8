package journal

import "shipfitter/api"

// Entries lie one behind the other, from the first byte on; behind the last one all bits are 1. Each is what one Append wrote, or began to write: a head, and the record's bytes. The head has two bytes that tell how many these are (the lesser one first), and a mark. One bit of the mark is turned when both bytes are there, one more when the record is there. As a deed that turns one bit is done or not, however it is torn, a mark is never in doubt; and a byte counts only where a bit of the mark was turned behind it. What a crash left stays where it is: nothing need ever be erased.
const (
	headSize = 3
	markAt   = 2

	markNone  = 0xff // of the head, some bits may be there; of the record nothing is
	markMany  = 0xfe // how many bytes the record has is there
	markWhole = 0xfc // the record is there
)

// leastBlocks that a flash with records has.
const leastBlocks = 3

// free is a byte that nothing was written to.
const free = 0xff

// deeds that write a record from a place on, where all bits are 1.
func deeds(at int, s string) []api.Deed {
	l := make([]api.Deed, 0, headSize+1+len(s))
	program := func(at int, value byte) {
		l = append(l, api.Deed{Kind: api.DeedProgram, At: at, Value: int(value)})
	}
	program(at, byte(len(s)))
	program(at+1, byte(len(s)>>8))
	program(at+markAt, markMany)
	for i := range len(s) {
		program(at+headSize+i, s[i])
	}
	program(at+markAt, markWhole)
	return l
}

// look over all bytes of a flash: the records that are there, and where the next entry is to begin.
func look(all string) ([]string, int, api.Errno) {
	if len(all) < leastBlocks*api.BlockSize {
		return nil, 0, api.ErrState
	}
	var records []string
	end := 0
	for !isFree(all[end:]) {
		x, e := entryOf(all[end:])
		if e != api.OK {
			return nil, 0, e
		}
		if x.whole {
			records = append(records, x.record)
		}
		end += x.size
	}
	return records, end, api.OK
}

// entry of a flash: how many bytes it takes; its record, if that is whole.
type entry struct {
	size   int
	record string
	whole  bool
}

// entryOf bytes that are not free: the first one of them.
func entryOf(rest string) (entry, api.Errno) {
	if len(rest) < headSize || isFree(rest[:headSize]) {
		return entry{}, api.ErrState
	}
	mark := rest[markAt]
	if mark == markNone {
		return entry{size: headSize}, api.OK
	}
	many := int(rest[0]) | int(rest[1])<<8
	if many < 1 || many > api.MaxRecord || many > len(rest)-headSize {
		return entry{}, api.ErrState
	}
	size := headSize + many
	switch mark {
	case markMany:
		return entry{size: size}, api.OK
	case markWhole:
		return entry{size, rest[headSize:size], true}, api.OK
	}
	return entry{}, api.ErrState
}

// isFree tells whether all bits are 1.
func isFree(s string) bool {
	// Not by strings.Trim: it takes all bytes that are no sign for one and the same.
	for i := range len(s) {
		if s[i] != free {
			return false
		}
	}
	return true
}
