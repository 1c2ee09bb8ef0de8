package session_test

import (
	"fmt"
	"slices"
	"strings"
	"testing"

	"shipfitter/api"
	"shipfitter/journal"
	"shipfitter/session"
)

func TestM3ReopenOfNoRecords(t *testing.T) {
	for blocks := 3; blocks <= 32; blocks++ {
		reopens(t, fmt.Sprint(blocks, " blocks"), formatted(t, blocks), of(), api.OK)
	}
	if r, e := session.Reopen(api.Kernel{}, formatted(t, 3)); told(r) != told(noRegistry) || e != api.OK {
		t.Errorf("a kernel without anything: Reopen = %+v, %d", r, e)
	}
}

func TestM3ReopenOfRecords(t *testing.T) {
	a, b := mod("a", 100), mod("b", 64, "a", "kernel")
	f := formatted(t, 32)
	for _, step := range []struct {
		c    api.Cmd
		want api.Registry
	}{
		{put(a), of(at(0, a))},
		{put(mod("x", 4)), of(at(0, a), at(2, mod("x", 4)))},
		{put(b), of(at(0, a), at(2, mod("x", 4)), at(3, b))},
		{out("x"), of(at(0, a), at(3, b))},
		{anew(mod("a", 256)), of(at(3, b), at(4, mod("a", 256)))},
		{pack(), of(at(0, b), at(1, mod("a", 256)))},
		{out("b"), of(at(1, mod("a", 256)))},
	} {
		f = written(t, f, records(t, step.c)...)
		reopens(t, told(step.c), f, step.want, api.OK)
	}
}

func TestM3RecordsThatAreNoCommands(t *testing.T) {
	a, x, y := mod("a", 64), mod("x", 64), mod("y", 64)
	sa := records(t, put(a))[0]
	for _, s := range []string{"\x00", "\x05", "\xff", "a", "\x04\x04", "\x04a", "\x02", "\x02A", "\x02a\x00", "\x02abcdefghijk", "\x01", "\x03", "\x01a", "\x00" + sa[1:], sa[:len(sa)-1], sa + "\x00", sa + sa, sa[1:], "\x01\x01a\x00\x00\x03\x00aaa\x00\x00\x00", "\x01\x06kernel\x00\x00\x04\x00aaaa\x00\x00\x00", strings.Repeat("\x02", 800), strings.Repeat("\x04", 800)} {
		f := written(t, formatted(t, 32), s)
		reopens(t, fmt.Sprintf("%q alone", s), f, of(), api.OK)
		f = written(t, f, records(t, put(x), put(y), out("x"))...)
		f = written(t, f, s, s)
		reopens(t, fmt.Sprintf("%q behind commands", s), f, of(at(1, y)), api.OK)
		f = written(t, f, sa, s)
		reopens(t, fmt.Sprintf("%q between commands", s), f, of(at(0, a), at(1, y)), api.OK)
	}
}

func TestM3RecordsWhoseCommandsHaveAnErrno(t *testing.T) {
	a, b := mod("a", 64), mod("b", 64, "a")
	f := formatted(t, 32)
	f = written(t, f, records(t, out("a"), anew(a), put(b), put(a), put(mod("a", 100)), put(b), out("a"), anew(mod("a", 64, "b")), out("none"), out("kernel"))...)
	reopens(t, "some", f, of(at(0, a), at(1, b)), api.OK)
	f = written(t, f, records(t, out("b"), out("a"), out("a"), put(b))...)
	reopens(t, "and more", f, of(), api.OK)

	big := formatted(t, 32)
	for i := range 5 {
		big = written(t, big, records(t, put(mod(fmt.Sprint("big", i), 256)))...)
	}
	reopens(t, "no room", big, of(at(0, mod("big0", 256)), at(4, mod("big1", 256)), at(8, mod("big2", 256)), at(12, mod("big3", 256))), api.OK)
	small := formatted(t, 32)
	for i := range 9 {
		small = written(t, small, records(t, put(mod(fmt.Sprint("s", i), 4)))...)
	}
	want := of()
	for i := range 8 {
		want.Modules = append(want.Modules, at(i, mod(fmt.Sprint("s", i), 4)))
	}
	reopens(t, "no place", small, want, api.OK)
}

// Of records there may be more than a session's commands.
func TestM3ReopenOfManyRecords(t *testing.T) {
	f := formatted(t, 32)
	last := mod("z", 4)
	for n := range 60 {
		f = written(t, f, records(t, put(last))...)
		if n == 39 || n == 40 {
			reopens(t, fmt.Sprint(n, " behind one"), f, of(at(0, last)), api.OK)
		}
		f = written(t, f, records(t, out("z"))...)
	}
	reopens(t, "120 records", f, of(), api.OK)
	f = written(t, f, records(t, put(last))...)
	reopens(t, "121 records", f, of(at(0, last)), api.OK)
}

// What a record makes hangs on the kernel that it is reopened with.
func TestM3ReopenWithAnotherKernel(t *testing.T) {
	a, b := mod("a", 64, "kernel"), mod("b", 64)
	f := written(t, formatted(t, 9), records(t, put(a), put(b))...)
	reopens(t, "the kernel", f, of(at(0, a), at(1, b)), api.OK)
	for what, k := range map[string]api.Kernel{"none of it": {}, "another version": {Major: 2, Minor: 9, Exports: kernel().Exports}, "an earlier one": {Major: 1, Exports: kernel().Exports}, "another name": {Major: 1, Minor: 2, Exports: []api.Export{{Name: "g", At: 1}}}} {
		want := api.Registry{Kernel: k, Modules: []api.Placed{at(0, b)}}
		if r, e := session.Reopen(k, f); told(r) != told(want) || e != api.OK {
			t.Errorf("%s: Reopen = %+v, %d; must be %+v", what, r, e, want)
		}
	}
}

// kernelAndFlash are what a flash is reopened with.
type kernelAndFlash struct {
	k api.Kernel
	f api.Flash
}

// flashFault is one change of both, and what is told of it.
type flashFault struct {
	what   string
	want   api.Errno
	change func(x *kernelAndFlash)
}

// reopenFaults are what Reopen has against a kernel and a flash, in its order.
func reopenFaults() []flashFault {
	return []flashFault{
		{"the kernel's version", api.ErrRange, func(x *kernelAndFlash) { x.k.Minor = 256 }},
		{"the kernel's exports are many", api.ErrMany, func(x *kernelAndFlash) { x.k.Exports = append(x.k.Exports, make([]api.Export, 6)...) }},
		{"the kernel's first export", api.ErrForm, func(x *kernelAndFlash) { x.k.Exports[0].Name = "F" }},
		{"the kernel's second export", api.ErrTwice, func(x *kernelAndFlash) { x.k.Exports[1].Name = x.k.Exports[0].Name }},
		{"the kernel's last export", api.ErrRange, func(x *kernelAndFlash) { x.k.Exports[2].At = 4096 }},
		{"too many blocks", api.ErrRange, func(x *kernelAndFlash) { x.f.Blocks = slices.Repeat(x.f.Blocks[:1], 33) }},
		{"a block of fewer bytes", api.ErrForm, func(x *kernelAndFlash) { x.f.Blocks[0] = x.f.Blocks[0][1:] }},
	}
}

// eachFlashFault tells of each fault by itself, and beside each one that is named behind it.
func eachFlashFault(t *testing.T, tell func(what string, x kernelAndFlash, want api.Errno)) {
	t.Helper()
	start := written(t, formatted(t, 4), records(t, put(mod("a", 64)))...)
	changed := func(changes ...flashFault) kernelAndFlash {
		x := kernelAndFlash{kernel(), api.Flash{Blocks: slices.Clone(start.Blocks)}}
		for _, f := range changes {
			f.change(&x)
		}
		return x
	}
	all := reopenFaults()
	for i, first := range all {
		tell(first.what, changed(first), first.want)
		for _, later := range all[i+1:] {
			tell(first.what+", "+later.what, changed(first, later), first.want)
		}
		x := changed(first)
		if x.f = noFlash; i < 5 {
			tell(first.what+", no flash", x, first.want)
		}
	}
}

func TestM3ReopenTheErrorThatIsNamedFirst(t *testing.T) {
	eachFlashFault(t, func(what string, x kernelAndFlash, want api.Errno) {
		t.Helper()
		if r, e := session.Reopen(x.k, x.f); told(r) != told(noRegistry) || e != want {
			t.Errorf("%s: Reopen = %+v, %d; must be %d", what, r, e, want)
		}
	})
}

func TestM3ReopenOfFlashesThatAreNone(t *testing.T) {
	block := strings.Repeat("\xff", 128)
	for what, c := range map[string]struct {
		f    api.Flash
		want api.Errno
	}{
		"none":                 {noFlash, api.ErrRange},
		"no blocks":            {api.Flash{Blocks: []string{}}, api.ErrRange},
		"33 blocks":            {api.Flash{Blocks: slices.Repeat([]string{block}, 33)}, api.ErrRange},
		"33 blocks, all empty": {api.Flash{Blocks: make([]string, 33)}, api.ErrRange},
		"an empty block":       {api.Flash{Blocks: []string{block, block, ""}}, api.ErrForm},
		"a byte less":          {api.Flash{Blocks: []string{block[1:], block, block}}, api.ErrForm},
		"a byte more":          {api.Flash{Blocks: []string{block, block + "\xff", block}}, api.ErrForm},
	} {
		reopens(t, what, c.f, noRegistry, c.want)
		plays(t, what, c.f, nil, noFlash, nil, c.want)
		plays(t, what, c.f, make([]api.Cmd, 40), noFlash, nil, c.want)
		plays(t, what+", too many commands", c.f, make([]api.Cmd, 41), noFlash, nil, api.ErrMany)
	}
}

// Of a flash that is not ours Reopen tells what Open tells, or what its records make.
func TestM3ReopenOfFlashesThatAreNotOurs(t *testing.T) {
	for _, b := range []string{"\x00", "\x01", "\x7f", "\xaa", "\xfe", "\xff"} {
		for _, blocks := range []int{1, 2, 3, 32} {
			f := api.Flash{Blocks: slices.Repeat([]string{strings.Repeat(b, 128)}, blocks)}
			what := fmt.Sprintf("%d blocks of %q", blocks, b)
			if _, e := journal.Open(f); e != api.OK {
				reopens(t, what, f, noRegistry, e)
				plays(t, what, f, []api.Cmd{pack()}, noFlash, nil, e)
				continue
			}
			if r, e := session.Reopen(kernel(), f); e != api.OK {
				t.Errorf("%s: Reopen = %+v, %d", what, r, e)
			}
		}
	}
}
