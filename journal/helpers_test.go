package journal_test

import (
	"fmt"
	"slices"
	"strings"
	"testing"

	"shipfitter/api"
	"shipfitter/flash"
	"shipfitter/journal"
)

// formatted is a flash on which no records are.
func formatted(t *testing.T, blocks int) api.Flash {
	t.Helper()
	f, e := journal.Format(blocks)
	if e != api.OK {
		t.Fatalf("Format(%d): %d", blocks, e)
	}
	return f
}

// filled is a flash all of whose bytes are one and the same.
func filled(blocks int, b byte) api.Flash {
	return api.Flash{Blocks: slices.Repeat([]string{strings.Repeat(string([]byte{b}), 128)}, blocks)}
}

// opens holds a flash to its records, however often it is asked.
func opens(t *testing.T, what string, f api.Flash, records ...string) {
	t.Helper()
	for range 2 {
		if l, e := journal.Open(f); !slices.Equal(l, records) || e != api.OK {
			t.Fatalf("%s: Open = %q, %d; must be %q", what, l, e, records)
		}
	}
}

// append1 appends a record, and holds the deeds to lead to the flash.
func append1(t *testing.T, f api.Flash, s string) (api.Flash, []api.Deed) {
	t.Helper()
	after, l, e := journal.Append(f, s)
	if e != api.OK {
		t.Fatalf("Append of %d bytes: %d", len(s), e)
	}
	leads(t, f, l, after)
	return after, l
}

// leads holds deeds to lead from one flash to another one.
func leads(t *testing.T, f api.Flash, l []api.Deed, after api.Flash) {
	t.Helper()
	if g, e := flash.Do(f, l); e != api.OK || len(l) == 0 || !slices.Equal(g.Blocks, after.Blocks) {
		t.Fatalf("%d deeds lead to %q, %d; must be %q", len(l), g.Blocks, e, after.Blocks)
	}
}

// refused holds Append to an error, with no flash and no deeds.
func refused(t *testing.T, what string, f api.Flash, s string, want api.Errno) {
	t.Helper()
	if g, l, e := journal.Append(f, s); e != want || len(g.Blocks) > 0 || len(l) > 0 {
		t.Errorf("%s, %d bytes: Append = %d blocks, %d deeds, %d; must be %d", what, len(s), len(g.Blocks), len(l), e, want)
	}
}

// cut is a flash behind a crash: so many deeds are done, and the next one is torn, if there is one.
func cut(t *testing.T, f api.Flash, l []api.Deed, many int, part string) api.Flash {
	t.Helper()
	f, e := flash.Do(f, l[:many])
	if e == api.OK && many < len(l) {
		f, e = flash.Torn(f, l[many], part)
	}
	if e != api.OK {
		t.Fatalf("deeds that are not right: %d", e)
	}
	return f
}

// left holds a flash behind a crash to all records that were there, and the one that was on its way, whole or not at all; it tells those that are there.
func left(t *testing.T, what string, f api.Flash, were []string, s string) []string {
	t.Helper()
	both := append(slices.Clone(were), s)
	l, e := journal.Open(f)
	if e != api.OK || !slices.Equal(l, were) && !slices.Equal(l, both) {
		t.Fatalf("%s: Open = %q, %d; must be %q, maybe with %q", what, l, e, were, s)
	}
	opens(t, what, f, l...)
	return l
}

// parts: none, and each first byte.
func parts() []string {
	l := []string{""}
	for i := range 256 {
		l = append(l, string([]byte{byte(i)}))
	}
	return l
}

// fewParts: none, all, and some between.
func fewParts() []string {
	return []string{"", "\x00", "\xff", "\xaa", "\x55", "\x01", "\xfe", "\x80", "\x7f", "\x0f"}
}

// numbered is a text of so many bytes that differ from those beside them.
func numbered(many, from int) string {
	b := make([]byte, many)
	for i := range b {
		b[i] = byte(from + 37*i + i/256)
	}
	return string(b)
}

// odd are records that could be taken for something else.
func odd() []string {
	return []string{"\xff", "\xff\xff\xff\xff", "\x00", "\x00\x00\x00", "ends\xff\xff", "\xff\xffbegins", "\xfe", "\xfc", "\x01\x00\xfcx", "\x01\x00\xfex", "\xff\xff\xfc", "\x80\x81\xbf", strings.Repeat("\xff", 255), strings.Repeat("\xff", 256), strings.Repeat("\x00", 512), strings.Repeat("\xff", 800), strings.Repeat("\x00", 800), numbered(800, 1)}
}

func say(a ...any) string { return fmt.Sprint(a...) }
