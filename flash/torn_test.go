package flash_test

import (
	"math/rand"
	"strings"
	"testing"

	"shipfitter/api"
	"shipfitter/flash"
)

// some bytes: those of one bit, of all but one, and others.
func some() []int {
	l := []int{0, 255, 0xaa, 0x55, 0xf0, 0x0f, 60, 195}
	for i := range 8 {
		l = append(l, 1<<i, 255-1<<i)
	}
	return l
}

// tornProgram is what a program leaves that is cut off, told bit by bit.
func tornProgram(was, value, part byte) byte {
	var b byte
	for i := range 8 {
		bit := byte(1) << i
		turns := was&bit != 0 && value&bit == 0
		if was&bit != 0 && (!turns || part&bit != 0) {
			b |= bit
		}
	}
	return b
}

func TestK2TornPrograms(t *testing.T) {
	all := various(2)
	for _, was := range some() {
		before := with(all, 130, byte(was))
		for _, value := range some() {
			d := program(130, value)
			tears(t, before, d, "", before, api.OK)
			for _, part := range some() {
				after := with(all, 130, tornProgram(byte(was), byte(value), byte(part)))
				tears(t, before, d, string([]byte{byte(part)}), after, api.OK)
				tears(t, before, d, string([]byte{byte(part), byte(^part), 0}), after, api.OK)
			}
		}
	}
}

func TestK2PlacesOfTornPrograms(t *testing.T) {
	for _, blocks := range []int{1, 2, 32} {
		all := erased(blocks * 128)
		for _, at := range []int{0, 1, 127, len(all) - 128, len(all) - 1} {
			tears(t, all, program(at, 0x0f), "\xaa", with(all, at, 0xaf), api.OK)
			tears(t, all, program(at, 0), "\x00", with(all, at, 0), api.OK)
			tears(t, all, program(at, 0), "\xff", all, api.OK)
		}
	}
}

// tornErase is what an erase leaves that is cut off, told bit by bit.
func tornErase(block, part string) string {
	b := []byte(block)
	for i := range 8 * len(b) {
		bit := byte(1) << (i % 8)
		if i/8 < len(part) && part[i/8]&bit != 0 {
			b[i/8] |= bit
		}
	}
	return string(b)
}

func TestK2TornErases(t *testing.T) {
	for _, blocks := range []int{1, 3, 32} {
		all := various(blocks)
		parts := []string{"", "\x00", "\xff", "\xaa\x55", erased(127), erased(128), erased(129), strings.Repeat("\x00", 128), various(1), various(2)[100:], strings.Repeat("\x00", 127) + "\x81", strings.Repeat("\x00", 128) + "\xff"}
		for at := range blocks {
			block := all[at*128:][:128]
			for _, part := range parts {
				tears(t, all, erase(at), part, all[:at*128]+tornErase(block, part)+all[at*128+128:], api.OK)
			}
		}
		tears(t, all, erase(0), erased(1<<16), erased(128)+all[128:], api.OK)
	}
}

// drawn bytes, so many.
func drawn(r *rand.Rand, many int) string {
	b := make([]byte, many)
	for i := range b {
		b[i] = byte(r.Intn(256))
	}
	return string(b)
}

// drawnDeed is one that is right for so many blocks.
func drawnDeed(r *rand.Rand, blocks int) api.Deed {
	if r.Intn(4) == 0 {
		return erase(r.Intn(blocks))
	}
	return program(r.Intn(blocks*128), r.Intn(256))
}

// done is what a deed makes of bytes, told bit by bit.
func done(all string, d api.Deed) string {
	if d.Kind == api.DeedErase {
		return all[:d.At*128] + erased(128) + all[d.At*128+128:]
	}
	return with(all, d.At, tornProgram(all[d.At], byte(d.Value), 0))
}

// torn is what a deed makes of bytes that is cut off.
func torn(all string, d api.Deed, part string) string {
	if d.Kind == api.DeedErase {
		return all[:d.At*128] + tornErase(all[d.At*128:][:128], part) + all[d.At*128+128:]
	}
	return with(all, d.At, tornProgram(all[d.At], byte(d.Value), (part + "\xff")[0]))
}

func TestK1K2AndK3SomeDeeds(t *testing.T) {
	r := rand.New(rand.NewSource(11))
	for range 400 {
		blocks := 1 + r.Intn(4)
		all := drawn(r, blocks*128)
		before := all
		var l []api.Deed
		for range r.Intn(30) {
			d := drawnDeed(r, blocks)
			l = append(l, d)
			part := drawn(r, r.Intn(3)*r.Intn(90))
			cut := torn(all, d, part)
			tears(t, all, d, part, cut, api.OK)
			all = done(all, d)
			does(t, cut, all, api.OK, d)
		}
		does(t, before, all, api.OK, l...)
	}
}

func TestK3WhatIsTornAndDoneThenIsAsIfDoneAtOnce(t *testing.T) {
	all := various(2)
	deeds := []api.Deed{erase(0), erase(1)}
	for _, value := range some() {
		deeds = append(deeds, program(0, value), program(77, value), program(255, value))
	}
	for _, d := range deeds {
		want, _ := flash.Do(of(all), []api.Deed{d})
		for _, part := range []string{"", "\x00", "\xff", "\xaa\x55", various(1), erased(128)} {
			f := of(all)
			for range 3 {
				f, _ = flash.Torn(f, d, part)
				got, e := flash.Do(f, []api.Deed{d})
				is(t, "torn, and done then", got, e, strings.Join(want.Blocks, ""), api.OK)
			}
		}
	}
}

func TestK3AProgramNeverTurnsABitFrom0To1(t *testing.T) {
	for was := range 256 {
		before := with(erased(128), 5, byte(was))
		for _, value := range some() {
			after, _ := flash.Do(of(before), []api.Deed{program(5, value)})
			for _, part := range []string{"", "\x00", "\xff", "\xaa", "\x55", "\x10"} {
				cut, _ := flash.Torn(of(before), program(5, value), part)
				now, least := cut.Blocks[0][5], after.Blocks[0][5]
				if now&^byte(was) != 0 || least&^now != 0 {
					t.Fatalf("%08b, programmed by %08b: %08b, torn by %q: %08b", was, value, least, part, now)
				}
			}
		}
	}
}
