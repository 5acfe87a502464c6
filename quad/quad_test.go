package quad

import (
	"encoding/binary"
	"math"
	"testing"
)

// fitting are numbers that have room in four bytes, and beyond ones that have none.
func fitting() []int {
	return []int{0, 1, 7, 255, 256, 511, 1<<16 - 1, 1 << 16, 0x01020304, 1<<24 - 1, 1 << 24, math.MaxInt32, 1 << 31, math.MaxUint32 - 1, math.MaxUint32}
}
func beyond() []int {
	return []int{-1, -256, math.MinInt32, -math.MaxUint32, -1 << 32, math.MinInt, math.MaxUint32 + 1, 7 + 1<<32, 7 + 1<<62, math.MaxInt}
}

func TestFits(t *testing.T) {
	for _, n := range fitting() {
		if !Fits(n) {
			t.Errorf("%d has room", n)
		}
	}
	for _, n := range beyond() {
		if Fits(n) {
			t.Errorf("%d has no room", n)
		}
	}
}

func TestPrint(t *testing.T) {
	if got := Print(0x01020304); got != "\x01\x02\x03\x04" {
		t.Errorf("%q", got)
	}
	for _, n := range append(fitting(), beyond()...) {
		if got, want := Print(n), string(binary.BigEndian.AppendUint32(nil, uint32(n))); got != want || len(got) != Bytes {
			t.Errorf("%d: %q, want %q", n, got, want)
		}
	}
}

func TestThereAndBack(t *testing.T) {
	for _, n := range fitting() {
		for _, ahead := range []string{"", "\xff", "PAGE"} {
			if got := At(ahead+Print(n)+"\xff", len(ahead)); got != n {
				t.Errorf("%d behind %q: %d", n, ahead, got)
			}
		}
	}
}

func TestAtNoPlace(t *testing.T) {
	s := "\x01\x02\x03\x04\x05"
	for at, want := range map[int]int{-1: 0, 0: 0x01020304, 1: 0x02030405, 2: 0, 5: 0, 6: 0, math.MinInt: 0, math.MaxInt: 0} {
		if got := At(s, at); got != want {
			t.Errorf("at %d: %x, want %x", at, got, want)
		}
	}
	for size := range 4 {
		if got := At(s[:size], 0); got != 0 {
			t.Errorf("of %d bytes: %x", size, got)
		}
	}
}
