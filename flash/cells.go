package flash

import (
	"strings"

	"shipfitter/api"
)

// erased is a byte all of whose bits are 1.
const erased = 255

// cells are all bytes of a flash, one block behind the other.
type cells []byte

// turning tells which bits of byte i of those that a deed reaches are turned, of those that it would turn.
type turning func(i int, bits byte) byte

// tearing is how a deed of a kind is cut off.
func tearing(kind int, part string) turning {
	if kind == api.DeedErase {
		return func(i int, bits byte) byte {
			if i >= len(part) {
				return 0
			}
			return bits & part[i]
		}
	}
	stay := byte(erased)
	if part != "" {
		stay = part[0]
	}
	return func(_ int, bits byte) byte { return bits &^ stay }
}

// changed is a flash behind deeds, one by one.
func changed(f api.Flash, turned turning, l ...api.Deed) (api.Flash, api.Errno) {
	if e := Check(f); e != api.OK {
		return api.Flash{}, e
	}
	c := cells(strings.Join(f.Blocks, ""))
	for _, d := range l {
		if e := c.wrong(d); e != api.OK {
			return api.Flash{}, e
		}
		c.turn(d, turned)
	}
	return c.flash(), api.OK
}

// wrong tells what is wrong with a deed.
func (c cells) wrong(d api.Deed) api.Errno {
	places, greatest := 0, 0
	switch d.Kind {
	case api.DeedProgram:
		places, greatest = len(c), 255
	case api.DeedErase:
		places = len(c) / api.BlockSize
	default:
		return api.ErrKind
	}
	if d.At < 0 || d.At >= places || d.Value < 0 || d.Value > greatest {
		return api.ErrRange
	}
	return api.OK
}

// turn bits by a deed that is right.
func (c cells) turn(d api.Deed, turned turning) {
	reached := c.reach(d)
	for i, b := range reached {
		reached[i] = b ^ turned(i, b^becomes(d, b))
	}
}

// reach of a deed: the bytes that it may change.
func (c cells) reach(d api.Deed) cells {
	if d.Kind == api.DeedErase {
		return c[d.At*api.BlockSize:][:api.BlockSize]
	}
	return c[d.At:][:1]
}

// becomes is what a deed makes of a byte, if it is not cut off.
func becomes(d api.Deed, b byte) byte {
	if d.Kind == api.DeedErase {
		return erased
	}
	return b & byte(d.Value)
}

// flash of these bytes.
func (c cells) flash() api.Flash {
	l := make([]string, len(c)/api.BlockSize)
	for i := range l {
		l[i] = string(c[i*api.BlockSize:][:api.BlockSize])
	}
	return api.Flash{Blocks: l}
}
