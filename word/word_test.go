package word_test

import (
	"math"
	"testing"

	"shipfitter/api"
	"shipfitter/word"
)

func TestA1Get(t *testing.T) {
	for _, c := range []struct {
		s         string
		at, bytes int
		want      int
		e         api.Errno
	}{
		{"\x01\x02\x03\x04\x05", 0, 1, 1, api.OK},
		{"\x01\x02\x03\x04\x05", 0, 2, 0x0201, api.OK},
		{"\x01\x02\x03\x04\x05", 1, 3, 0x040302, api.OK},
		{"\x01\x02\x03\x04\x05", 1, 4, 0x05040302, api.OK},
		{"\x01\x02\x03\x04\x05", 4, 1, 5, api.OK},
		{"\xff\xff\xff\xff", 0, 4, 1<<32 - 1, api.OK},
		{"\x00\x00\x00\x80", 0, 4, 1 << 31, api.OK},
		{"abcd", 0, 0, 0, api.ErrKind},
		{"abcde", 0, 5, 0, api.ErrKind},
		{"abcd", 0, -1, 0, api.ErrKind},
		{"abcd", -1, 1, 0, api.ErrRange},
		{"abcd", 4, 1, 0, api.ErrRange},
		{"abcd", 1, 4, 0, api.ErrRange},
		{"abcd", 3, 2, 0, api.ErrRange},
		{"", 0, 1, 0, api.ErrRange},
		{"", -1, 5, 0, api.ErrKind},
		{"", -1, 0, 0, api.ErrKind},
	} {
		if n, e := word.Get(c.s, c.at, c.bytes); n != c.want || e != c.e {
			t.Errorf("Get(%q, %d, %d) = %d, %d; must be %d, %d", c.s, c.at, c.bytes, n, e, c.want, c.e)
		}
	}
}

func TestA1Put(t *testing.T) {
	for _, c := range []struct {
		s            string
		at, bytes, n int
		want         string
		e            api.Errno
	}{
		{"abcde", 0, 1, 0x12345678, "\x78bcde", api.OK},
		{"abcde", 1, 2, 0x12345678, "a\x78\x56de", api.OK},
		{"abcde", 2, 3, 0x12345678, "ab\x78\x56\x34", api.OK},
		{"abcde", 1, 4, 0x12345678, "a\x78\x56\x34\x12", api.OK},
		{"abcde", 0, 4, -2, "\xfe\xff\xff\xffe", api.OK},
		{"abcde", 0, 4, 1 << 32, "\x00\x00\x00\x00e", api.OK},
		{"abcde", 0, 2, 65537, "\x01\x00cde", api.OK},
		{"abcde", 0, 4, math.MinInt, "\x00\x00\x00\x00e", api.OK},
		{"abcde", 0, 4, math.MaxInt, "\xff\xff\xff\xffe", api.OK},
		{"abcde", 0, 0, 1, "", api.ErrKind},
		{"abcde", 0, 5, 1, "", api.ErrKind},
		{"abcde", -1, 1, 1, "", api.ErrRange},
		{"abcde", 5, 1, 1, "", api.ErrRange},
		{"abcde", 2, 4, 1, "", api.ErrRange},
		{"", 0, 1, 1, "", api.ErrRange},
		{"", -1, 5, 1, "", api.ErrKind},
	} {
		if s, e := word.Put(c.s, c.at, c.bytes, c.n); s != c.want || e != c.e {
			t.Errorf("Put(%q, %d, %d, %d) = %q, %d; must be %q, %d", c.s, c.at, c.bytes, c.n, s, e, c.want, c.e)
		}
	}
}

func TestA1Signed(t *testing.T) {
	for bits := 1; bits <= 32; bits++ {
		whole := 1 << bits
		for _, c := range []struct {
			n, want int
			e       api.Errno
		}{
			{-1, 0, api.ErrRange},
			{0, 0, api.OK},
			{whole/2 - 1, whole/2 - 1, api.OK},
			{whole / 2, -whole / 2, api.OK},
			{whole - 1, -1, api.OK},
			{whole, 0, api.ErrRange},
		} {
			if n, e := word.Signed(c.n, bits); n != c.want || e != c.e {
				t.Errorf("Signed(%d, %d) = %d, %d; must be %d, %d", c.n, bits, n, e, c.want, c.e)
			}
		}
	}
	for _, bits := range []int{math.MinInt, -1, 0, 33, 64, math.MaxInt} {
		for _, n := range []int{-1, 0, 1} {
			if k, e := word.Signed(n, bits); k != 0 || e != api.ErrKind {
				t.Errorf("Signed(%d, %d) = %d, %d; must be 0, %d", n, bits, k, e, api.ErrKind)
			}
		}
	}
}

func TestA2WhatIsPutIsThereAndNothingElseIsOther(t *testing.T) {
	for _, s := range []string{"abcdefg", "\x00\x00\x00\x00\x00\x00\x00", "\xff\xff\xff\xff\xff\xff\xff"} {
		for bytes := 1; bytes <= 4; bytes++ {
			for at := 0; at+bytes <= len(s); at++ {
				for _, n := range []int{0, 1, 255, 256, 0x89abcdef, 1 << 31, 1<<32 - 1, 1 << 32, -1, -256, math.MinInt, math.MaxInt} {
					putThere(t, s, at, bytes, n)
				}
			}
		}
	}
}

func putThere(t *testing.T, s string, at, bytes, n int) {
	t.Helper()
	u, e := word.Put(s, at, bytes, n)
	if e != api.OK || len(u) != len(s) || u[:at] != s[:at] || u[at+bytes:] != s[at+bytes:] {
		t.Fatalf("Put(%q, %d, %d, %d) = %q, %d: something else is other", s, at, bytes, n, u, e)
	}
	k, e := word.Get(u, at, bytes)
	if want := n & (1<<(8*bytes) - 1); e != api.OK || k != want {
		t.Fatalf("Get of Put(%q, %d, %d, %d) = %d, %d; must be %d", s, at, bytes, n, k, e, want)
	}
}

func TestP1NothingPanicsWhateverIsHandedIn(t *testing.T) {
	odd := []int{math.MinInt, math.MinInt + 1, -5, -1, 0, 1, 2, 3, 4, 5, 32, 33, 1 << 31, 1 << 32, math.MaxInt - 3, math.MaxInt - 1, math.MaxInt}
	for _, s := range []string{"", "a", "abcd", "abcdef"} {
		for _, at := range odd {
			for _, bytes := range odd {
				want := api.OK
				if bytes < 1 || bytes > 4 {
					want = api.ErrKind
				} else if at < 0 || at > 6 || at+bytes > len(s) {
					want = api.ErrRange
				}
				n, e := word.Get(s, at, bytes)
				u, f := word.Put(s, at, bytes, at)
				if e != want || f != want {
					t.Errorf("Get, Put of %q, %d, %d: errors %d, %d; must be %d", s, at, bytes, e, f, want)
				}
				if want != api.OK && (n != 0 || u != "") {
					t.Errorf("Get, Put of %q, %d, %d: %d, %q beside an error", s, at, bytes, n, u)
				}
			}
		}
	}
	for _, n := range odd {
		for _, bits := range odd {
			if k, e := word.Signed(n, bits); e != api.OK && k != 0 {
				t.Errorf("Signed(%d, %d): %d beside an error", n, bits, k)
			}
		}
	}
}

func TestP2P3WhatIsHandedInStaysAndAnswersAreTheSameEachTime(t *testing.T) {
	back := []byte("abcdefgh")
	s := string(back)
	for range 3 {
		u, e := word.Put(s, 2, 4, 0x01020304)
		if u != "ab\x04\x03\x02\x01gh" || e != api.OK {
			t.Errorf("Put = %q, %d", u, e)
		}
		n, e := word.Get(s, 2, 4)
		if n != 0x66656463 || e != api.OK {
			t.Errorf("Get = %d, %d", n, e)
		}
		if s != string(back) {
			t.Errorf("what was handed in is %q now", s)
		}
	}
}
