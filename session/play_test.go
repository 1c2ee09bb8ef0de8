package session_test

import (
	"fmt"
	"slices"
	"testing"

	"shipfitter/api"
	"shipfitter/journal"
	"shipfitter/session"
)

func TestM3PlayAppendsEachCommandThatHasNoErrno(t *testing.T) {
	a, b := mod("a", 100), mod("b", 64, "a", "kernel")
	l := []api.Cmd{put(b), put(a), put(b), put(a), out("a"), {Kind: 5}, pack(), out("none"), anew(mod("a", 256)), out("B"), pack(), {Kind: 4, Name: "x"}, out("b")}
	want := []api.Errno{api.ErrNone, 0, 0, api.ErrTwice, api.ErrState, api.ErrKind, 0, api.ErrNone, 0, api.ErrForm, 0, api.ErrForm, 0}
	stay := records(t, put(a), put(b), pack(), anew(mod("a", 256)), pack(), out("b"))
	start := formatted(t, 20)
	plays(t, "all at once", start, l, written(t, start, stay...), want, api.OK)
	after, _, _ := session.Play(kernel(), start, l)
	has(t, "all at once", after, stay...)
	reopens(t, "all at once", after, of(at(1, mod("a", 256))), api.OK)

	for cut := range len(l) + 1 {
		f, first, e := session.Play(kernel(), start, l[:cut])
		f, second, g := session.Play(kernel(), f, l[cut:])
		if !slices.Equal(f.Blocks, after.Blocks) || !slices.Equal(append(first, second...), want) || e != api.OK || g != api.OK {
			t.Errorf("cut at %d: %v, %d; %v, %d", cut, first, e, second, g)
		}
	}
}

func TestM3PlayNoCommands(t *testing.T) {
	start := formatted(t, 3)
	some := written(t, start, append(records(t, put(mod("a", 4)), out("none")), "no command")...)
	for _, l := range [][]api.Cmd{nil, {}} {
		plays(t, "none", start, l, start, nil, api.OK)
		plays(t, "none", some, l, some, nil, api.OK)
	}
	plays(t, "commands that have an Errno", some, []api.Cmd{put(mod("a", 4)), out("b"), {}}, some, []api.Errno{api.ErrTwice, api.ErrNone, api.ErrKind}, api.OK)
}

// What is on the flash stays there, whatever it is, and what it made holds for the commands behind it.
func TestM3PlayBehindWhatIsThere(t *testing.T) {
	a, b := mod("a", 64), mod("b", 64, "a")
	were := append(records(t, put(a), put(a), out("b")), "\x05", "\x02A")
	start := written(t, formatted(t, 9), were...)
	l := []api.Cmd{put(a), put(b), out("a")}
	want := written(t, start, records(t, put(b))...)
	plays(t, "some records", start, l, want, []api.Errno{api.ErrTwice, 0, api.ErrState}, api.OK)
	got, _, _ := session.Play(kernel(), start, l)
	has(t, "some records", got, append(were, records(t, put(b))...)...)
	reopens(t, "some records", got, of(at(0, a), at(1, b)), api.OK)
}

func TestM3PlayWithAnotherKernel(t *testing.T) {
	a := mod("a", 64, "kernel")
	start := formatted(t, 9)
	f, errnos, e := session.Play(api.Kernel{}, start, []api.Cmd{put(a), pack()})
	if !slices.Equal(errnos, []api.Errno{api.ErrState, api.OK}) || e != api.OK {
		t.Errorf("a kernel without anything: %v, %d", errnos, e)
	}
	has(t, "a kernel without anything", f, records(t, pack())...)
}

func TestM3PlayHowManyThereMayBe(t *testing.T) {
	start := formatted(t, 32)
	l := slices.Repeat([]api.Cmd{put(mod("m", 4)), out("m")}, 20)
	for _, n := range []int{0, 1, 39, 40} {
		plays(t, fmt.Sprint(n, " commands"), start, l[:n], written(t, start, records(t, l[:n]...)...), allOK(n), api.OK)
	}
	for _, n := range []int{41, 42, 256, 1 << 16} {
		plays(t, fmt.Sprint(n, " commands"), start, slices.Repeat([]api.Cmd{pack()}, n), noFlash, nil, api.ErrMany)
		plays(t, fmt.Sprint(n, " that are none"), start, make([]api.Cmd, n), noFlash, nil, api.ErrMany)
	}
	plays(t, "40 that are none", start, make([]api.Cmd, 40), start, slices.Repeat([]api.Errno{api.ErrKind}, 40), api.OK)
	// More records than a session's commands are no fault.
	f := written(t, start, records(t, l...)...)
	plays(t, "40 behind 40", f, l, written(t, f, records(t, l...)...), allOK(40), api.OK)
}

func TestM3PlayTheErrorThatIsNamedFirst(t *testing.T) {
	eachFlashFault(t, func(what string, x kernelAndFlash, want api.Errno) {
		t.Helper()
		for many, e := range map[int]api.Errno{0: want, 1: want, 40: want, 41: api.ErrMany, 1000: api.ErrMany} {
			f, errnos, got := session.Play(x.k, x.f, slices.Repeat([]api.Cmd{pack()}, many))
			if len(f.Blocks) != 0 || len(errnos) != 0 || got != e {
				t.Errorf("%s, %d commands: Play = %q, %v, %d; must be %d", what, many, f.Blocks, errnos, got, e)
			}
		}
	})
}

// filled is a flash with a record of so many bytes more, as often as there is room for it.
func filled(t *testing.T, f api.Flash, bytes int) api.Flash {
	t.Helper()
	for {
		after, _, e := journal.Append(f, fmt.Sprintf("%0*d", bytes, 0))
		if e == api.ErrSpace {
			return f
		}
		if e != api.OK {
			t.Fatalf("Append: %d", e)
		}
		f = after
	}
}

func TestM3PlayWhereNoMoreRoomIs(t *testing.T) {
	a := mod("a", 64)
	start := filled(t, written(t, formatted(t, 5), records(t, put(a))...), 1)
	bad := []api.Cmd{put(a), out("b"), {}, out("A")}
	errnos := []api.Errno{api.ErrTwice, api.ErrNone, api.ErrKind, api.ErrForm}
	for _, c := range []api.Cmd{pack(), out("a"), anew(a), put(mod("b", 64))} {
		plays(t, "the first command", start, []api.Cmd{c}, start, nil, api.ErrSpace)
		plays(t, "the first command, twice", start, []api.Cmd{c, c}, start, nil, api.ErrSpace)
		plays(t, "the last command", start, append(slices.Clone(bad), c), start, errnos, api.ErrSpace)
		plays(t, "one between others", start, append(append(slices.Clone(bad), c), bad...), start, errnos, api.ErrSpace)
	}
	plays(t, "no commands", start, nil, start, nil, api.OK)
	plays(t, "commands that have an Errno", start, bad, start, errnos, api.OK)
	plays(t, "too many commands", start, slices.Repeat([]api.Cmd{pack()}, 41), noFlash, nil, api.ErrMany)
	reopens(t, "behind all", start, of(at(0, a)), api.OK)
}

// A command behind the one for which no room is is not run, though there were room for it; what was appended ahead stays.
func TestM3PlayEndsWhereNoMoreRoomIs(t *testing.T) {
	big, small := put(mod("big", 256)), put(mod("s", 4))
	start := filled(t, formatted(t, 6), 200)
	ahead := written(t, start, records(t, small)...)
	l := []api.Cmd{out("none"), small, small, big, pack(), out("s")}
	want := []api.Errno{api.ErrNone, 0, api.ErrTwice}
	plays(t, "big has no room", start, l, ahead, want, api.ErrSpace)
	plays(t, "big alone has no room", start, l[3:], start, nil, api.ErrSpace)
	plays(t, "big has an Errno", start, []api.Cmd{put(mod("big", 256, "none")), small, pack()}, written(t, ahead, records(t, pack())...), []api.Errno{api.ErrNone, 0, 0}, api.OK)
	f, _, _ := session.Play(kernel(), start, l)
	reopens(t, "big has no room", f, of(at(0, mod("s", 4))), api.OK)
	plays(t, "played on", f, []api.Cmd{small, pack(), out("s")}, written(t, f, records(t, pack(), out("s"))...), []api.Errno{api.ErrTwice, 0, 0}, api.OK)
}

// On flashes of each size all is appended that Append has room for, and not one command more.
func TestM3PlayUpToTheLastRoom(t *testing.T) {
	for blocks := 3; blocks <= 32; blocks++ {
		start := formatted(t, blocks)
		f, done := start, 0
		var l []api.Cmd
		for i := range 20 {
			l = append(l, put(mod("m", 4*(1+(7*i)%64))), out("m"))
		}
		var e api.Errno
		for done < len(l) && e == api.OK {
			var after api.Flash
			if after, _, e = journal.Append(f, records(t, l[done])[0]); e == api.OK {
				f, done = after, done+1
			}
		}
		plays(t, fmt.Sprint(blocks, " blocks"), start, l, f, allOK(done), e)
	}
}
