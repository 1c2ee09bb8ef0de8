package patch

import "testing"

// Addresses are too small for a call that does not fit: its bounds are asked of half alone.
func TestC1CallsThatDoNotFit(t *testing.T) {
	for _, c := range []struct {
		far, want int
		fits      bool
	}{
		{-1<<24 - 2, -1<<23 - 1, false},
		{-1 << 24, -1 << 23, true},
		{-1<<24 + 2, -1<<23 + 1, true},
		{1<<24 - 2, 1<<23 - 1, true},
		{1 << 24, 1 << 23, false},
	} {
		if n, fits := half(c.far); n != c.want || fits != c.fits {
			t.Errorf("half(%d) = %d, %v; must be %d, %v", c.far, n, fits, c.want, c.fits)
		}
	}
	for _, far := range []int{-1<<24 + 1, -3, -1, 1, 3, 1<<24 - 1} {
		if _, fits := half(far); fits {
			t.Errorf("half(%d) fits; it is odd", far)
		}
	}
}
