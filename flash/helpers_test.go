package flash_test

import (
	"fmt"
	"slices"
	"strings"
	"testing"

	"shipfitter/api"
	"shipfitter/flash"
)

// erased are so many bytes 255.
func erased(many int) string { return strings.Repeat("\xff", many) }

// of is a flash that has just these bytes.
func of(all string) api.Flash {
	var f api.Flash
	for i := 0; i < len(all); i += 128 {
		f.Blocks = append(f.Blocks, all[i:i+128])
	}
	return f
}

// various: so many blocks, most of whose bytes differ from those beside them.
func various(blocks int) string {
	var b []byte
	for i := range blocks * 128 {
		b = append(b, byte(i*7+i/128*31))
	}
	return string(b)
}

// with is a text with another byte at a place.
func with(all string, at int, b byte) string { return all[:at] + string([]byte{b}) + all[at+1:] }

func program(at, value int) api.Deed {
	return api.Deed{Kind: api.DeedProgram, At: at, Value: value}
}

func erase(at int) api.Deed { return api.Deed{Kind: api.DeedErase, At: at} }

// is holds an answer to be the flash of these bytes; beside an error there must be none.
func is(t *testing.T, what string, f api.Flash, e api.Errno, all string, want api.Errno) {
	t.Helper()
	if e != want || strings.Join(f.Blocks, "") != all || !slices.Equal(f.Blocks, of(all).Blocks) {
		t.Fatalf("%s: %q, %d; must be %q, %d", what, f.Blocks, e, all, want)
	}
}

func does(t *testing.T, all, after string, want api.Errno, l ...api.Deed) {
	t.Helper()
	f, e := flash.Do(of(all), l)
	is(t, fmt.Sprintf("Do %v", l), f, e, after, want)
}

func tears(t *testing.T, all string, d api.Deed, part, after string, want api.Errno) {
	t.Helper()
	f, e := flash.Torn(of(all), d, part)
	is(t, fmt.Sprintf("Torn %v, %q", d, part), f, e, after, want)
}

// refused holds Do and Torn to one error.
func refused(t *testing.T, f api.Flash, d api.Deed, want api.Errno) {
	t.Helper()
	g, e := flash.Do(f, []api.Deed{d})
	is(t, fmt.Sprintf("Do %v", d), g, e, "", want)
	for _, part := range []string{"", "\x00", "\xff", erased(129)} {
		g, e = flash.Torn(f, d, part)
		is(t, fmt.Sprintf("Torn %v, %q", d, part), g, e, "", want)
	}
}
