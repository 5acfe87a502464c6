package leaf

import (
	"encoding/binary"
	"hash/crc32"
	"math"
	"math/rand"
	"strings"
	"sync"
	"testing"

	"mosaicist/api"
)

// noughts is so many bytes of 0.
func noughts(n int) string { return strings.Repeat("\x00", n) }

// anyBytes is so many bytes of any.
func anyBytes(r *rand.Rand, n int) string {
	b := make([]byte, n)
	r.Read(b)
	return string(b)
}

// summed is s, and its sum by the library's own CRC-32.
func summed(s string) string {
	return string(binary.BigEndian.AppendUint32([]byte(s), crc32.ChecksumIEEE([]byte(s))))
}

// sectorOf is a page's sector as the chapter tells it, by another way.
func sectorOf(no uint32, data string) string {
	return summed(string(binary.BigEndian.AppendUint32([]byte("PAGE"), no)) + data + noughts(44))
}

// changed is s with one byte changed, by exclusive or.
func changed(s string, at int, by byte) string {
	b := []byte(s)
	b[at] ^= by
	return string(b)
}

// resealed is s with one byte changed, and the sum of what is ahead of its own.
func resealed(s string, at int, by byte) string {
	return summed(changed(s, at, by)[:252])
}

// somePages are numbers of pages: all that there may be, and some that have room in four bytes.
func somePages() []int {
	l := []int{512, 513, 1<<16 - 1, 1 << 16, 1<<24 - 1, 1 << 24, 0x01020304, math.MaxInt32, math.MaxInt32 + 1, math.MaxUint32 - 1, math.MaxUint32}
	for no := range 512 {
		l = append(l, no)
	}
	return l
}

// beyond are numbers that have no room in four bytes.
func beyond() []int {
	return []int{-1, -2, -5, -256, -512, math.MinInt32, math.MinInt32 - 1, -math.MaxUint32, -1 << 32, 5 - 1<<32, math.MinInt, math.MinInt + 5, math.MaxUint32 + 1, 5 + 1<<32, 5 + 1<<40, 5 + 1<<62, math.MaxInt - 1, math.MaxInt}
}

// someData are bytes of pages.
func someData(r *rand.Rand) []string {
	return []string{noughts(200), strings.Repeat("\xff", 200), "abc" + noughts(197), noughts(197) + "abc", strings.Repeat("PAGE\x00\x00\x00\x05", 25), strings.Repeat("\u00e4", 100), anyBytes(r, 200), anyBytes(r, 200)}
}

// wantPage wants s to be the sector of that page.
func wantPage(t *testing.T, what, s string, no int, data string) {
	t.Helper()
	if got, is := Parse(s, no); !is || got != data {
		t.Fatalf("%s, page %d: %t, %q, want %q", what, no, is, got, data)
	}
}

// wantNone wants s not to be the sector of a page of that number.
func wantNone(t *testing.T, what, s string, no int) {
	t.Helper()
	if got, is := Parse(s, no); is || got != "" {
		t.Fatalf("%s, page %d: %t, %q, want nothing", what, no, is, got)
	}
}

// P13.1

// TestPrintKnownPages holds sectors against sums that were reckoned elsewhere.
func TestPrintKnownPages(t *testing.T) {
	rising := make([]byte, 200)
	for i := range rising {
		rising[i] = byte(i)
	}
	for _, c := range []struct {
		no               int
		data, ahead, sum string
	}{
		{5, "abc" + noughts(197), "PAGE\x00\x00\x00\x05", "\x3e\xc2\xcf\x64"},
		{0, noughts(200), "PAGE\x00\x00\x00\x00", "\x4a\xef\xce\x8b"},
		{511, strings.Repeat("\xff", 200), "PAGE\x00\x00\x01\xff", "\x4b\x8d\x66\xb2"},
		{math.MaxUint32, strings.Repeat("m", 200), "PAGE\xff\xff\xff\xff", "\x2f\xdd\x96\x90"},
		{0x01020304, string(rising), "PAGE\x01\x02\x03\x04", "\xa0\x13\x35\x82"},
	} {
		want := c.ahead + c.data + noughts(44) + c.sum
		if got := Print(api.Page{No: c.no, Data: c.data}); got != want {
			t.Errorf("page %d: %q, want %q", c.no, got, want)
		}
		wantPage(t, "known", want, c.no, c.data)
	}
}

func TestPrint(t *testing.T) {
	r := rand.New(rand.NewSource(131))
	for _, no := range somePages() {
		for _, data := range someData(r) {
			got := Print(api.Page{No: no, Data: data})
			if got != sectorOf(uint32(no), data) || len(got) != 256 {
				t.Fatalf("page %d of %q: %q of %d bytes", no, data, got, len(got))
			}
		}
	}
}

// TestPrintWithoutPage wants no sector of what isn't 200 bytes, or whose number has no room: it would pass for another page's.
func TestPrintWithoutPage(t *testing.T) {
	for size := range 300 {
		got := Print(api.Page{No: 5, Data: strings.Repeat("m", size)})
		if size != 200 && got != "" || size == 200 && len(got) != 256 {
			t.Errorf("of %d bytes: a sector of %d bytes", size, len(got))
		}
	}
	for _, no := range beyond() {
		if got := Print(api.Page{No: no, Data: noughts(200)}); got != "" {
			t.Errorf("page %d: %q", no, got)
		}
	}
	if got := Print(api.Page{}); got != "" {
		t.Errorf("a zero page: %q", got)
	}
}

// TestParse reads sectors that were put together by another way.
func TestParse(t *testing.T) {
	r := rand.New(rand.NewSource(132))
	for _, no := range somePages() {
		for _, data := range someData(r) {
			wantPage(t, "another way's", sectorOf(uint32(no), data), no, data)
		}
	}
}

// TestParseOtherSizes cuts sectors short and makes them longer, with right sums as well.
func TestParseOtherSizes(t *testing.T) {
	data := strings.Repeat("m", 200)
	s := sectorOf(5, data)
	for size := range 256 {
		wantNone(t, "cut short", s[:size], 5)
		wantNone(t, "cut at its beginning", s[256-size:], 5)
	}
	for _, other := range []string{s + "\x00", s + noughts(4), s + s, "\x00" + s, s[1:] + s[:1], s[:255] + "\x00", noughts(256) + s} {
		wantNone(t, "moved, or longer", other, 5)
	}
	for room := range 100 {
		if other := summed("PAGE\x00\x00\x00\x05" + data + noughts(room)); room != 44 {
			wantNone(t, "sealed in another size", other, 5)
		}
	}
	for size := range 190 {
		wantNone(t, "nothing, or noughts", noughts(size*2), 0)
		wantNone(t, "nothing, sealed", summed(noughts(size*2)), 0)
	}
}

// TestParseOtherKinds reads sectors of 256 bytes with right sums that are none of a page's.
func TestParseOtherKinds(t *testing.T) {
	number := "\x00\x00\x00\x05"
	data := strings.Repeat("m", 200)
	for _, begin := range []string{
		"", "page" + number, "PAGF" + number, "PAG\x00" + number, "\x00\x00\x00\x00" + number, "GAPE" + number, "EGAP" + number, "LOGP" + number, "LOGC" + number, "MOSAIC01",
		"PAGE\x05\x00\x00\x00", "PAGE\x00\x05\x00\x00", "PAGE\x00\x00\x05\x00", "PAG" + number, "PAGE" + number[1:], "PAGES" + number, "PAGE\x00" + number, number + "PAGE",
	} {
		body := begin + data + noughts(44)
		wantNone(t, "of another beginning", summed((body + noughts(252))[:252]), 5)
	}
	// The sum may be right of other bytes, or be turned round.
	s := sectorOf(5, data)
	turned := []byte(s)
	for i := range 4 {
		turned[252+i] = s[255-i]
	}
	sum := binary.BigEndian.AppendUint32(nil, ^crc32.ChecksumIEEE([]byte(s[:252])))
	for _, other := range []string{string(turned), s[:252] + string(sum), s[:252] + noughts(4), s[:252] + summed(s[:208])[208:], s[:252] + summed(data)[200:]} {
		wantNone(t, "of another sum", other, 5)
	}
}

// TestParseResealed changes each byte, and makes the sum right again: only the page's own bytes may be others.
func TestParseResealed(t *testing.T) {
	r := rand.New(rand.NewSource(133))
	data := anyBytes(r, 200)
	s := sectorOf(0x105, data)
	for at := range 252 {
		for _, by := range []byte{1, 0x20, 0x80, 0xff, byte(1 + r.Intn(255))} {
			other := resealed(s, at, by)
			switch {
			case at < 4:
				wantNone(t, "another mark", other, 0x105)
			case at < 8:
				wantNone(t, "another number", other, 0x105)
				wantPage(t, "another number", other, 0x105^int(by)<<(8*(7-at)), data)
			case at < 208:
				wantPage(t, "other bytes", other, 0x105, changed(data, at-8, by))
			default:
				wantNone(t, "no noughts", other, 0x105)
			}
		}
	}
}

func TestBlank(t *testing.T) {
	if got := Blank(); got != noughts(200) || len(got) != api.PageData {
		t.Errorf("%q of %d bytes", got, len(got))
	}
	wantPage(t, "blank", Print(api.Page{No: 7, Data: Blank()}), 7, Blank())
	// What was never written is no page's sector, though its bytes are noughts.
	wantNone(t, "never written", noughts(256), 7)
	wantNone(t, "never written", noughts(256), 0)
}

// P13.2

func TestThereAndBack(t *testing.T) {
	r := rand.New(rand.NewSource(134))
	for _, no := range somePages() {
		for _, data := range someData(r) {
			wantPage(t, "there and back", Print(api.Page{No: no, Data: data}), no, data)
		}
	}
}

// TestExample lays page 5's sector in page 6's place.
func TestExample(t *testing.T) {
	s := Print(api.Page{No: 5, Data: "abc" + noughts(197)})
	wantPage(t, "in its place", s, 5, "abc"+noughts(197))
	wantNone(t, "in page 6's place", s, 6)
}

// TestPlaceAlone lays each page's sector in each place.
func TestPlaceAlone(t *testing.T) {
	r := rand.New(rand.NewSource(135))
	for no := range 512 {
		s := Print(api.Page{No: no, Data: anyBytes(r, 200)})
		for other := range 512 {
			if _, is := Parse(s, other); is != (other == no) {
				t.Fatalf("page %d, in %d's place: %t", no, other, is)
			}
		}
	}
}

// TestPlaceBeyond lays sectors in places whose numbers have the same last four bytes.
func TestPlaceBeyond(t *testing.T) {
	for _, no := range somePages() {
		s := Print(api.Page{No: no, Data: Blank()})
		for _, far := range []int{1 << 32, 1 << 33, 1 << 48, 1 << 62, -1 << 32, -1 << 33, -1 << 62, math.MinInt} {
			wantNone(t, "far away", s, no+far)
		}
		for _, other := range beyond() {
			wantNone(t, "beyond", s, other)
		}
		if no > 0 {
			wantNone(t, "below 0", s, -no)
		}
	}
	for _, no := range beyond() {
		wantNone(t, "no sector", Print(api.Page{No: no, Data: Blank()}), no)
		wantNone(t, "its last four bytes", sectorOf(uint32(no), Blank()), no)
	}
}

// TestEachByte changes each byte in each way: the sum tells it.
func TestEachByte(t *testing.T) {
	r := rand.New(rand.NewSource(136))
	s := Print(api.Page{No: 300, Data: anyBytes(r, 200)})
	for at := range s {
		for by := 1; by < 256; by++ {
			other := changed(s, at, byte(by))
			wantNone(t, "changed", other, 300)
			if at >= 4 && at < 8 {
				wantNone(t, "changed", other, 300^by<<(8*(7-at)))
			}
		}
	}
}

// TestTorn lays the first bytes of one sector over another one's, as when the power goes within a write.
func TestTorn(t *testing.T) {
	r := rand.New(rand.NewSource(137))
	for range 40 {
		oldData, newData := anyBytes(r, 200), anyBytes(r, 200)
		for _, old := range []string{noughts(256), Print(api.Page{No: 9, Data: oldData}), Print(api.Page{No: 8, Data: newData})} {
			s := Print(api.Page{No: 9, Data: newData})
			for size := range 257 {
				torn := s[:size] + old[size:]
				switch torn {
				case s:
					wantPage(t, "whole", torn, 9, newData)
				case old:
					if got, is := Parse(torn, 9); is && got != oldData {
						t.Fatalf("not torn yet: %q", got)
					}
				default:
					wantNone(t, "torn", torn, 9)
				}
			}
		}
	}
}

// TestAnyBytes reads what is no sector: nothing panics, and nothing is a page's.
func TestAnyBytes(t *testing.T) {
	r := rand.New(rand.NewSource(138))
	for range 20000 {
		s := anyBytes(r, r.Intn(300))
		no := r.Intn(600) - 50
		wantNone(t, "any bytes", s, no)
		wantNone(t, "any bytes behind a mark", ("PAGE\x00\x00\x00\x05" + s + noughts(256))[:256], 5)
	}
}

func TestManyAtOnce(t *testing.T) {
	var all sync.WaitGroup
	for i := range 8 {
		all.Go(func() {
			data := strings.Repeat(string(rune('a'+i)), 200)
			for no := range 200 {
				s := Print(api.Page{No: no, Data: data})
				got, is := Parse(s, no)
				_, none := Parse(s, no+1)
				if s != sectorOf(uint32(no), data) || !is || got != data || none || Blank() != noughts(200) {
					t.Errorf("goroutine %d: another page %d", i, no)
				}
			}
		})
	}
	all.Wait()
}
