package session_test

import (
	"fmt"
	"math/rand"
	"slices"
	"strings"
	"testing"

	"shipfitter/api"
	"shipfitter/compact"
	"shipfitter/flash"
	"shipfitter/journal"
	"shipfitter/link"
	"shipfitter/plan"
	"shipfitter/registry"
	"shipfitter/session"
)

// drawnModule of one of ten names: most of what it asks for is there, and most of its calls are even.
func drawnModule(r *rand.Rand, all api.Registry) api.Module {
	names := []string{"kernel", "none"}[:1+r.Intn(12)/11]
	own := fmt.Sprint("m", r.Intn(10))
	for _, p := range all.Modules {
		if p.Module.Name != own || r.Intn(20) == 0 {
			names = append(names, p.Module.Name)
		}
	}
	var others []string
	for _, i := range r.Perm(len(names))[:r.Intn(min(len(names), 3)+1)] {
		others = append(others, names[i])
	}
	m := mod(own, []int{64, 16 + 4*r.Intn(61)}[r.Intn(2)], others...)
	m.Text = drawnBytes(r, len(m.Text))
	for i := range others {
		m.Patches[i].Kind = []int{api.PatchWord, api.PatchHere, api.PatchHigh, api.PatchLow}[r.Intn(4)]
	}
	m.Minor = r.Intn(20)
	if r.Intn(40) == 0 {
		m.Patches[len(m.Patches)-1].Add++
	}
	return m
}

func drawnBytes(r *rand.Rand, many int) string {
	b := make([]byte, many)
	for i := range b {
		b[i] = byte(r.Intn(256))
	}
	return string(b)
}

// drawnCmd for a registry: few of them have no bytes.
func drawnCmd(r *rand.Rand, all api.Registry) api.Cmd {
	m := drawnModule(r, all)
	c := []api.Cmd{put(m), put(m), put(m), anew(m), out(m.Name), out(m.Name), pack()}[r.Intn(7)]
	switch r.Intn(25) {
	case 0:
		c.Kind = []int{0, 1, 2, 3, 4, 5}[r.Intn(6)]
	case 1:
		c.Name += []string{"a", "A", "abcdefghij"}[r.Intn(3)]
	case 2:
		c.Module.Minor += 250
	}
	return c
}

// after is what must become of a registry by a command, by the calls of chapters 9 and 10.
func after(r api.Registry, c api.Cmd) (api.Registry, api.Errno) {
	_, e := session.Encode(c)
	next := noRegistry
	switch {
	case e != api.OK:
	case c.Kind == 1:
		next, e = plan.Install(r, c.Module)
	case c.Kind == 2:
		next, e = plan.Remove(r, c.Name)
	case c.Kind == 3:
		next, e = plan.Upgrade(r, c.Module)
	case c.Kind == 4:
		next, _, e = compact.Pack(r)
	}
	if e != api.OK {
		return r, e
	}
	return next, api.OK
}

// drawnCmds for a registry, what becomes of it by them, and their Errnos.
func drawnCmds(r *rand.Rand, all api.Registry, many int) ([]api.Cmd, api.Registry, []api.Errno) {
	var l []api.Cmd
	var errnos []api.Errno
	for range many {
		c := drawnCmd(r, all)
		var e api.Errno
		all, e = after(all, c)
		l, errnos = append(l, c), append(errnos, e)
	}
	return l, all, errnos
}

// lasting are the bytes of commands that have no Errno.
func lasting(t *testing.T, l []api.Cmd, errnos []api.Errno) []string {
	t.Helper()
	var all []string
	for i, c := range l {
		if errnos[i] == api.OK {
			all = append(all, records(t, c)...)
		}
	}
	return all
}

func TestM2SomeCommands(t *testing.T) {
	r := rand.New(rand.NewSource(13))
	type kind struct {
		kind int
		e    api.Errno
	}
	met := map[kind]int{}
	for i := range 300 {
		_, was, _ := drawnCmds(r, of(), r.Intn(10))
		l, want, errnos := drawnCmds(r, was, r.Intn(41))
		runs(t, fmt.Sprint(i), was, l, want, errnos, api.OK)
		for j, c := range l {
			met[kind{c.Kind, errnos[j]}]++
		}
	}
	for k, l := range [][]api.Errno{
		{api.ErrKind},
		{api.OK, api.ErrForm, api.ErrMany, api.ErrRange, api.ErrState, api.ErrNone, api.ErrTwice, api.ErrSpace},
		{api.OK, api.ErrForm, api.ErrState, api.ErrNone},
		{api.OK, api.ErrForm, api.ErrRange, api.ErrState, api.ErrNone, api.ErrSpace},
		{api.OK, api.ErrForm},
		{api.ErrKind},
	} {
		for _, e := range l {
			if met[kind{k, e}] < 5 {
				t.Errorf("kind %d has Errno %d only %d times", k, e, met[kind{k, e}])
			}
		}
	}
}

// same holds two registries to be the same, and to have the same bytes.
func same(t *testing.T, what string, got, want api.Registry) {
	t.Helper()
	a, e := link.Area(got.Kernel, got.Modules)
	b, f := link.Area(want.Kernel, want.Modules)
	if told(got) != told(want) || a != b || len(a) != 1024 || e != api.OK || f != api.OK {
		t.Fatalf("%s: %+v, %d; must be %+v, %d", what, got, e, want, f)
	}
	if e := registry.Check(got); e != api.OK {
		t.Fatalf("%s: Check of %+v = %d", what, got, e)
	}
}

// played tells what came of a flash and a registry by commands, and which records came there, having held Play to Run; and whether Play ended ahead of the last one for want of room.
func played(t *testing.T, f api.Flash, was api.Registry, l []api.Cmd) (api.Flash, api.Registry, []string, bool) {
	t.Helper()
	got, errnos, e := session.Play(kernel(), f, l)
	if e != api.OK && e != api.ErrSpace || e == api.OK && len(errnos) != len(l) || e != api.OK && len(errnos) >= len(l) {
		t.Fatalf("Play of %d commands: %v, %d", len(l), errnos, e)
	}
	done := l[:len(errnos)]
	now, ran, g := session.Run(was, done)
	if g != api.OK || !slices.Equal(ran, errnos) {
		t.Fatalf("Run tells %v, %d; Play %v", ran, g, errnos)
	}
	if e == api.ErrSpace {
		next := l[len(done)]
		_, none := after(now, next)
		_, _, full := journal.Append(got, records(t, next)[0])
		if none != api.OK || full != e {
			t.Fatalf("Play ended ahead of a command that has Errno %d, for which Append tells %d", none, full)
		}
	}
	return got, now, lasting(t, done, errnos), e == api.ErrSpace
}

func TestM4WhatWasPlayedIsReopened(t *testing.T) {
	r := rand.New(rand.NewSource(14))
	ended := 0
	for i := range 150 {
		f, now := formatted(t, 3+r.Intn(30)), of()
		var all []string
		for range 1 + r.Intn(6) {
			l, _, _ := drawnCmds(r, now, r.Intn(12))
			var more []string
			var full bool
			f, now, more, full = played(t, f, now, l)
			if full {
				ended++
			}
			all = append(all, more...)
			has(t, fmt.Sprint(i), f, all...)
			back, e := session.Reopen(kernel(), f)
			if e != api.OK {
				t.Fatalf("Reopen: %d", e)
			}
			same(t, fmt.Sprint(i), back, now)
		}
	}
	if ended < 10 {
		t.Errorf("only %d sessions ended for want of room", ended)
	}
}

// A crash of what Play appends leaves what was played ahead of it, or that and the command that was on its way.
func TestM4CrashesBetween(t *testing.T) {
	r := rand.New(rand.NewSource(15))
	whole := map[bool]int{}
	for i := range 40 {
		l, was, _ := drawnCmds(r, of(), 1+r.Intn(8))
		f, _, e := session.Play(kernel(), formatted(t, 32), l)
		c := drawnCmd(r, was)
		want, g := after(was, c)
		if e != api.OK || g != api.OK {
			continue
		}
		_, deeds, _ := journal.Append(f, records(t, c)[0])
		for range 30 {
			k := r.Intn(len(deeds) + 1)
			crashed, _ := flash.Do(f, deeds[:k])
			if k < len(deeds) {
				crashed, _ = flash.Torn(crashed, deeds[k], drawnBytes(r, r.Intn(2)))
			}
			back, e := session.Reopen(kernel(), crashed)
			if e != api.OK || told(back) != told(was) && told(back) != told(want) || k == len(deeds) && told(back) != told(want) {
				t.Fatalf("%d: Reopen behind %d of %d deeds = %+v, %d", i, k, len(deeds), back, e)
			}
			whole[told(back) == told(want)]++
			next, _, _ := session.Play(kernel(), crashed, []api.Cmd{c, pack()})
			last, _, _ := session.Run(back, []api.Cmd{c, pack()})
			reopens(t, "played on", next, last, api.OK)
		}
	}
	if whole[true] < 20 || whole[false] < 20 {
		t.Errorf("%d crashes left the command, %d did not", whole[true], whole[false])
	}
}

func TestP1PlayAndReopenNeverPanic(t *testing.T) {
	r := rand.New(rand.NewSource(16))
	for range 300 {
		f := api.Flash{Blocks: make([]string, r.Intn(35))}
		for i := range f.Blocks {
			f.Blocks[i] = drawnBytes(r, 128)
			if r.Intn(3) == 0 {
				f.Blocks[i] = strings.Repeat(drawnBytes(r, 1), []int{128, 127, 0}[r.Intn(3)*r.Intn(2)])
			}
		}
		l, _, _ := drawnCmds(r, of(), r.Intn(42))
		back, e := session.Reopen(kernel(), f)
		if _, g := journal.Open(f); g != e || e != api.OK && told(back) != told(noRegistry) {
			t.Errorf("Reopen = %+v, %d; Open tells %d", back, e, g)
		}
		got, errnos, g := session.Play(kernel(), f, l)
		if len(l) > 40 && g != api.ErrMany || len(l) <= 40 && e != api.OK && g != e || (len(l) > 40 || e != api.OK) && (len(got.Blocks) != 0 || len(errnos) != 0) {
			t.Errorf("Play of %d commands = %v, %d; Reopen tells %d", len(l), errnos, g, e)
		}
	}
	for range 3000 {
		decodesAsMust(t, string([]byte{byte(r.Intn(6))})+drawnBytes(r, r.Intn(30)))
	}
}
