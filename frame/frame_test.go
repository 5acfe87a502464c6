package frame

import (
	"encoding/binary"
	"hash/crc32"
	"math"
	"math/rand"
	"strings"
	"sync"
	"testing"

	"mosaicist/api"
	"mosaicist/leaf"
	"mosaicist/tally"
)

// noughts is so many bytes of 0.
func noughts(n int) string { return strings.Repeat("\x00", n) }

// anyBytes is so many bytes of any.
func anyBytes(r *rand.Rand, n int) string {
	b := make([]byte, n)
	r.Read(b)
	return string(b)
}

// summed is s, and its sum by the library's own CRC-32.
func summed(s string) string {
	return string(binary.BigEndian.AppendUint32([]byte(s), crc32.ChecksumIEEE([]byte(s))))
}

// sectorOf is a sector as the chapter tells it, by another way, of any mark, numbers and bytes.
func sectorOf(mark string, epoch, index, page uint32, data string) string {
	b := []byte(mark)
	for _, n := range []uint32{epoch, index, page} {
		b = binary.BigEndian.AppendUint32(b, n)
	}
	b = append(b, data...)
	return summed(string(b) + noughts(252-len(b)))
}

// sectorOfFrame is a frame's sector, by another way.
func sectorOfFrame(f api.Frame) string {
	mark := map[bool]string{false: "LOGP", true: "LOGC"}[f.Commit]
	return sectorOf(mark, uint32(f.Epoch), uint32(f.Index), uint32(f.Page), f.Data)
}

// changed is s with one byte changed, by exclusive or.
func changed(s string, at int, by byte) string {
	b := []byte(s)
	b[at] ^= by
	return string(b)
}

// resealed is s with one byte changed, and the sum of what is ahead of its own.
func resealed(s string, at int, by byte) string {
	return summed(changed(s, at, by)[:252])
}

// someEpochs, someIndexes and somePages are numbers that a frame may be written with, their ends too.
func someEpochs() []int {
	return []int{1, 2, 3, 255, 256, 1<<16 - 1, 1 << 16, 0x01020304, 1<<24 - 1, 1 << 24, 1<<31 - 2, 1<<31 - 1}
}
func someIndexes() []int { return []int{0, 1, 2, 254, 255, 256, 257, 510, 511} }
func somePages() []int   { return []int{0, 1, 7, 128, 255, 256, 300, 510, 511} }

// strange are numbers that no frame may be written with, but those that have room in four bytes among them.
func strange() []int {
	return []int{512, 513, 768, 1<<16 - 1, 1 << 16, 1<<16 + 7, 1 << 24, 1<<31 - 1}
}

// beyond are numbers that have no room in four bytes.
func beyond() []int {
	return []int{-1, -2, -7, -256, -512, math.MinInt32, math.MinInt32 - 1, -math.MaxUint32, -1 << 32, 7 - 1<<32, math.MinInt, math.MinInt + 7, math.MaxUint32 + 1, math.MaxUint32 + 2, 7 + 1<<32, 7 + 1<<40, 7 + 1<<62, math.MaxInt - 1, math.MaxInt}
}

// someData are bytes of pages.
func someData(r *rand.Rand) []string {
	return []string{noughts(200), strings.Repeat("\xff", 200), "ab" + noughts(198), noughts(198) + "ab", strings.Repeat("LOGC\x00\x00\x00\x01", 25), strings.Repeat("\u00e4", 100), anyBytes(r, 200)}
}

// someFrames are frames that may be written.
func someFrames(r *rand.Rand) []api.Frame {
	var l []api.Frame
	for _, epoch := range someEpochs() {
		for _, index := range someIndexes() {
			for _, page := range somePages() {
				l = append(l, api.Frame{Epoch: epoch, Index: index, Commit: true, Page: page})
				for _, data := range someData(r) {
					l = append(l, api.Frame{Epoch: epoch, Index: index, Page: page, Data: data})
				}
			}
		}
	}
	return l
}

// twoFrames are a page's and a commit's, of three different numbers.
func twoFrames(r *rand.Rand) []api.Frame {
	return []api.Frame{
		{Epoch: 0x01020304, Index: 0x105, Page: 0x1a7, Data: anyBytes(r, 200)},
		{Epoch: 0x01020304, Index: 0x105, Commit: true, Page: 0x1a7},
	}
}

// wantFrame wants s to be the sector of that frame.
func wantFrame(t *testing.T, what, s string, want api.Frame) {
	t.Helper()
	if got, is := Parse(s); !is || got != want {
		t.Fatalf("%s: %t, %+v, want %+v", what, is, got, want)
	}
}

// wantNone wants s to be no frame's sector.
func wantNone(t *testing.T, what, s string) {
	t.Helper()
	if got, is := Parse(s); is || got != (api.Frame{}) {
		t.Fatalf("%s: %t, %+v, want nothing", what, is, got)
	}
}

// P16.1

func TestRight(t *testing.T) {
	r := rand.New(rand.NewSource(161))
	for _, f := range someFrames(r) {
		if !Right(f) {
			t.Fatalf("may be written: %+v", f)
		}
	}
}

// TestRightNumbers asks for each number's ends, each for itself, of pages' frames and of commits'.
func TestRightNumbers(t *testing.T) {
	r := rand.New(rand.NewSource(162))
	for _, f := range twoFrames(r) {
		for index := -3; index < 600; index++ {
			g := f
			g.Index = index
			if Right(g) != (index >= 0 && index <= 511) {
				t.Errorf("index %d: %t", index, Right(g))
			}
			g = f
			g.Page = index
			if Right(g) != (index >= 0 && index <= 511) {
				t.Errorf("page %d: %t", index, Right(g))
			}
		}
		for _, epoch := range []int{0, 1 << 31, 1<<31 + 1, math.MaxUint32 - 1, math.MaxUint32} {
			g := f
			g.Epoch = epoch
			if Right(g) {
				t.Errorf("epoch %d", epoch)
			}
		}
		for _, n := range append(strange(), beyond()...) {
			g, h, i := f, f, f
			g.Index, h.Page, i.Epoch = n, n, n
			if Right(g) || Right(h) || Right(i) != (n >= 1 && n < 1<<31) {
				t.Errorf("number %d: index %t, page %t, epoch %t", n, Right(g), Right(h), Right(i))
			}
		}
	}
}

// TestRightData asks for each number of bytes.
func TestRightData(t *testing.T) {
	for size := range 520 {
		f := api.Frame{Epoch: 1, Data: noughts(size)}
		if Right(f) != (size == 200) {
			t.Errorf("a page's, of %d bytes: %t", size, Right(f))
		}
		f.Commit = true
		if Right(f) != (size == 0) {
			t.Errorf("a commit's, of %d bytes: %t", size, Right(f))
		}
	}
	if Right(api.Frame{}) || Right(api.Frame{Commit: true}) {
		t.Error("a zero frame")
	}
}

// TestPrintKnownFrames holds sectors against sums that were reckoned elsewhere.
func TestPrintKnownFrames(t *testing.T) {
	rising := make([]byte, 200)
	for i := range rising {
		rising[i] = byte(i)
	}
	for _, c := range []struct {
		f          api.Frame
		ahead, sum string
	}{
		{api.Frame{Epoch: 3, Index: 1, Page: 7, Data: "ab" + noughts(198)}, "LOGP\x00\x00\x00\x03\x00\x00\x00\x01\x00\x00\x00\x07", "\x4a\x2b\xaf\xdc"},
		{api.Frame{Epoch: 3, Index: 2, Commit: true, Page: 1}, "LOGC\x00\x00\x00\x03\x00\x00\x00\x02\x00\x00\x00\x01", "\x0a\x34\x89\x6a"},
		{api.Frame{Epoch: 1, Data: noughts(200)}, "LOGP\x00\x00\x00\x01\x00\x00\x00\x00\x00\x00\x00\x00", "\x8d\x19\x6d\x69"},
		{api.Frame{Epoch: 1, Commit: true}, "LOGC\x00\x00\x00\x01\x00\x00\x00\x00\x00\x00\x00\x00", "\xf6\x06\x9a\xe2"},
		{api.Frame{Epoch: math.MaxInt32, Index: 511, Page: 511, Data: strings.Repeat("\xff", 200)}, "LOGP\x7f\xff\xff\xff\x00\x00\x01\xff\x00\x00\x01\xff", "\xdd\xdd\x98\xb5"},
		{api.Frame{Epoch: math.MaxInt32, Index: 511, Commit: true, Page: 511}, "LOGC\x7f\xff\xff\xff\x00\x00\x01\xff\x00\x00\x01\xff", "\x96\x5e\x57\x5a"},
		{api.Frame{Epoch: 0x01020304, Index: 0x105, Page: 0x1a7, Data: string(rising)}, "LOGP\x01\x02\x03\x04\x00\x00\x01\x05\x00\x00\x01\xa7", "\xc1\x2b\xd1\xc3"},
	} {
		body := c.ahead + c.f.Data
		want := body + noughts(252-len(body)) + c.sum
		if got := Print(c.f); got != want {
			t.Errorf("%+v: %q, want %q", c.f, got, want)
		}
		wantFrame(t, "known", want, c.f)
	}
}

func TestPrint(t *testing.T) {
	r := rand.New(rand.NewSource(163))
	for _, f := range someFrames(r) {
		got := Print(f)
		if got != sectorOfFrame(f) || len(got) != 256 || !tally.Whole(got) {
			t.Fatalf("%+v: %q of %d bytes", f, got, len(got))
		}
	}
}

// TestPrintStrange prints what may not be written: by the same words, as far as it has room.
func TestPrintStrange(t *testing.T) {
	r := rand.New(rand.NewSource(164))
	for _, f := range twoFrames(r) {
		for _, n := range append(strange(), 0, 1<<31, math.MaxUint32) {
			for _, g := range []api.Frame{
				{Epoch: n, Index: f.Index, Commit: f.Commit, Page: f.Page, Data: f.Data},
				{Epoch: f.Epoch, Index: n, Commit: f.Commit, Page: f.Page, Data: f.Data},
				{Epoch: f.Epoch, Index: f.Index, Commit: f.Commit, Page: n, Data: f.Data},
			} {
				if got := Print(g); got != sectorOfFrame(g) {
					t.Errorf("%+v: %q", g, got)
				}
			}
		}
		for size := range 300 {
			g := f
			g.Data = strings.Repeat("m", size)
			want := ""
			if size <= 236 {
				want = sectorOfFrame(g)
			}
			if got := Print(g); got != want {
				t.Errorf("of %d bytes: %q", size, got)
			}
		}
	}
}

// TestPrintWithoutRoom wants no sector of numbers that have no room: it would pass for that of other ones.
func TestPrintWithoutRoom(t *testing.T) {
	r := rand.New(rand.NewSource(165))
	for _, f := range twoFrames(r) {
		for _, n := range beyond() {
			g, h, i := f, f, f
			g.Epoch, h.Index, i.Page = n, n, n
			if Print(g) != "" || Print(h) != "" || Print(i) != "" {
				t.Errorf("number %d: %q, %q, %q", n, Print(g), Print(h), Print(i))
			}
		}
	}
}

// TestParse reads sectors that were put together by another way.
func TestParse(t *testing.T) {
	r := rand.New(rand.NewSource(166))
	for _, f := range someFrames(r) {
		wantFrame(t, "another way's", sectorOfFrame(f), f)
	}
}

// TestParseNumbers reads numbers that no frame may be written with, with right sums.
func TestParseNumbers(t *testing.T) {
	data := strings.Repeat("m", 200)
	for _, n := range []uint32{0, 1, 511, 512, 513, 0x1ff00, 1 << 16, 0x010001ff, 1 << 24, 1<<31 - 1, 1 << 31, 1<<31 + 1, math.MaxUint32 - 511, math.MaxUint32} {
		for _, c := range []struct {
			epoch, index, page uint32
			right              bool
		}{
			{n, 1, 7, n >= 1 && n < 1<<31},
			{3, n, 7, n <= 511},
			{3, 1, n, n <= 511},
		} {
			pages := sectorOf("LOGP", c.epoch, c.index, c.page, data)
			commits := sectorOf("LOGC", c.epoch, c.index, c.page, "")
			if c.right {
				wantFrame(t, "right", pages, api.Frame{Epoch: int(c.epoch), Index: int(c.index), Page: int(c.page), Data: data})
				wantFrame(t, "right", commits, api.Frame{Epoch: int(c.epoch), Index: int(c.index), Page: int(c.page), Commit: true})
			} else {
				wantNone(t, "not right", pages)
				wantNone(t, "not right", commits)
			}
		}
	}
}

// TestParseOtherBytes reads commits with bytes, and pages with more of them than they have.
func TestParseOtherBytes(t *testing.T) {
	for size := 1; size <= 236; size++ {
		wantNone(t, "a commit with bytes", sectorOf("LOGC", 3, 2, 1, noughts(size-1)+"m"))
		long := sectorOf("LOGP", 3, 1, 7, strings.Repeat("m", size))
		if size > 200 {
			wantNone(t, "a page with more bytes", long)
			continue
		}
		// Of fewer bytes the sector is that of a page whose last ones are noughts.
		wantFrame(t, "a page with fewer bytes", long, api.Frame{Epoch: 3, Index: 1, Page: 7, Data: strings.Repeat("m", size) + noughts(200-size)})
	}
}

// TestParseOtherSizes cuts sectors short and makes them longer, with right sums as well.
func TestParseOtherSizes(t *testing.T) {
	r := rand.New(rand.NewSource(167))
	for _, f := range twoFrames(r) {
		s := Print(f)
		for size := range 256 {
			wantNone(t, "cut short", s[:size])
			wantNone(t, "cut at its beginning", s[256-size:])
		}
		for _, other := range []string{s + "\x00", s + noughts(4), s + s, "\x00" + s, s[1:] + s[:1], s[:255] + "\x00", noughts(256) + s} {
			wantNone(t, "moved, or longer", other)
		}
		for room := range 100 {
			if size := 16 + len(f.Data) + room; size != 252 {
				wantNone(t, "sealed in another size", summed(s[:16+len(f.Data)]+noughts(room)))
			}
		}
	}
	for size := range 400 {
		wantNone(t, "noughts", noughts(size))
		wantNone(t, "noughts, sealed", summed(noughts(size)))
	}
}

// TestParseOtherKinds reads sectors of 256 bytes with right sums that are none of a frame's.
func TestParseOtherKinds(t *testing.T) {
	numbers := "\x00\x00\x00\x03\x00\x00\x00\x01\x00\x00\x00\x07"
	for _, begin := range []string{
		"", "logp", "LOGp", "LOGQ", "LOGB", "LOGD", "LOG\x00", "\x00\x00\x00\x00", "PLOG", "CLOG", "PGOL", "LOG", "LOGPC", "LOGCP", "LOGP\x00", "LOGC\x00", "PAGE", "MOSAIC01",
	} {
		for _, data := range []string{noughts(200), strings.Repeat("m", 200), "LOGP" + numbers, "LOGC" + numbers} {
			body := begin + numbers + data
			wantNone(t, "of another beginning", summed((body + noughts(252))[:252]))
		}
	}
	for no := range 512 {
		wantNone(t, "a page's sector at home", leaf.Print(api.Page{No: no, Data: strings.Repeat("m", 200)}))
	}
	// A commit's mark is no page's, and a page's with bytes is no commit's.
	r := rand.New(rand.NewSource(168))
	p, c := twoFrames(r)[0], twoFrames(r)[1]
	wantNone(t, "a page's, as a commit's", summed("LOGC"+Print(p)[4:252]))
	wantFrame(t, "a commit's, as a page's", summed("LOGP"+Print(c)[4:252]), api.Frame{Epoch: c.Epoch, Index: c.Index, Page: c.Page, Data: noughts(200)})
}

// TestParseOtherSums reads sectors whose sums are right of other bytes, or turned round.
func TestParseOtherSums(t *testing.T) {
	r := rand.New(rand.NewSource(169))
	for _, f := range twoFrames(r) {
		s := Print(f)
		turned := []byte(s)
		for i := range 4 {
			turned[252+i] = s[255-i]
		}
		sum := binary.BigEndian.AppendUint32(nil, ^crc32.ChecksumIEEE([]byte(s[:252])))
		for _, other := range []string{string(turned), s[:252] + string(sum), s[:252] + noughts(4), s[:252] + summed(s[:16])[16:], s[:252] + summed(s[16:216])[200:], s[:252] + summed(s[4:252])[248:]} {
			wantNone(t, "of another sum", other)
		}
	}
}

// TestParseResealed changes each byte, and makes the sum right again: only numbers and a page's own bytes may be others.
func TestParseResealed(t *testing.T) {
	r := rand.New(rand.NewSource(1610))
	for _, f := range twoFrames(r) {
		s := Print(f)
		for at := range 252 {
			for by := 1; by < 256; by++ {
				other := resealed(s, at, byte(by))
				g, may := f, true
				switch {
				case at < 4:
					may = false
					if f.Commit && at == 3 && byte(by) == 'P'^'C' {
						g.Commit, g.Data, may = false, noughts(200), true
					}
				case at < 8:
					g.Epoch ^= by << (8 * (7 - at))
					may = g.Epoch < 1<<31
				case at < 12:
					g.Index ^= by << (8 * (11 - at))
					may = g.Index < 512
				case at < 16:
					g.Page ^= by << (8 * (15 - at))
					may = g.Page < 512
				case at < 216 && !f.Commit:
					g.Data = changed(f.Data, at-16, byte(by))
				default:
					may = false
				}
				if may {
					wantFrame(t, "resealed", other, g)
				} else {
					wantNone(t, "resealed", other)
				}
			}
		}
	}
}

// P16.2

func TestThereAndBack(t *testing.T) {
	r := rand.New(rand.NewSource(1611))
	for _, f := range someFrames(r) {
		wantFrame(t, "there and back", Print(f), f)
	}
}

// TestExample prints the second frame of the third log, of page 7.
func TestExample(t *testing.T) {
	f := api.Frame{Epoch: 3, Index: 1, Page: 7, Data: strings.Repeat("m", 200)}
	s := Print(f)
	if s[:16] != "LOGP\x00\x00\x00\x03\x00\x00\x00\x01\x00\x00\x00\x07" {
		t.Errorf("%q", s[:16])
	}
	wantFrame(t, "the example", s, f)
}

// TestEachNumber goes through all indexes and all pages: each frame has a sector of its own.
func TestEachNumber(t *testing.T) {
	seen := map[string]api.Frame{}
	for n := range 512 {
		for _, f := range []api.Frame{
			{Epoch: 1, Index: n, Page: 511 - n, Data: noughts(200)},
			{Epoch: 1, Index: n, Page: 511 - n, Commit: true},
			{Epoch: 1, Index: 511 - n, Page: 511 - n, Data: noughts(200)},
			{Epoch: 1, Index: 511 - n, Page: 511 - n, Commit: true},
			{Epoch: n + 2, Index: 3, Page: 4, Data: noughts(200)},
			{Epoch: n + 2, Index: 3, Page: 4, Commit: true},
			{Epoch: 1, Index: 600, Page: n, Data: noughts(200)},
		} {
			s := Print(f)
			if g, was := seen[s]; was && g != f {
				t.Fatalf("%+v and %+v have one sector", f, g)
			}
			seen[s] = f
			if f.Index < 512 {
				wantFrame(t, "each number", s, f)
			} else {
				wantNone(t, "no index of a log", s)
			}
		}
	}
}

// TestEachByte changes each byte in each way: the sum tells it.
func TestEachByte(t *testing.T) {
	r := rand.New(rand.NewSource(1612))
	for _, f := range twoFrames(r) {
		s := Print(f)
		for at := range s {
			for by := 1; by < 256; by++ {
				wantNone(t, "changed", changed(s, at, byte(by)))
			}
		}
	}
}

// TestBursts changes up to four bytes side by side.
func TestBursts(t *testing.T) {
	r := rand.New(rand.NewSource(1613))
	for _, f := range twoFrames(r) {
		s := Print(f)
		for range 40000 {
			size := 2 + r.Intn(3)
			at := r.Intn(253 - size)
			other := s[:at] + anyBytes(r, size) + s[at+size:]
			if other != s {
				wantNone(t, "a burst", other)
			}
		}
	}
}

// TestTorn lays the first bytes of one frame's sector over another one's, as when the power goes within a write.
func TestTorn(t *testing.T) {
	r := rand.New(rand.NewSource(1614))
	for range 25 {
		f := api.Frame{Epoch: 9, Index: 4, Page: 30, Data: anyBytes(r, 200)}
		g := api.Frame{Epoch: 9, Index: 4, Commit: true, Page: 4}
		before := f
		before.Epoch, before.Data = 8, anyBytes(r, 200)
		for _, old := range []string{noughts(256), Print(f), Print(g), Print(before)} {
			for _, now := range []api.Frame{f, g} {
				s := Print(now)
				for size := range 257 {
					switch torn := s[:size] + old[size:]; torn {
					case s:
						wantFrame(t, "whole", torn, now)
					case old:
					default:
						wantNone(t, "torn", torn)
					}
				}
			}
		}
	}
}

// TestAnyBytes reads what is no sector: nothing panics, and nothing is a frame's.
func TestAnyBytes(t *testing.T) {
	r := rand.New(rand.NewSource(1615))
	for range 20000 {
		s := anyBytes(r, r.Intn(300))
		wantNone(t, "any bytes", s)
		wantNone(t, "any bytes behind a mark", ("LOGP\x00\x00\x00\x05" + s + noughts(256))[:256])
		wantNone(t, "any bytes behind a mark", ("LOGC\x00\x00\x00\x05" + s + noughts(256))[:256])
	}
}

// TestAnyFrames takes frames of any numbers: just those that may be written are had again, as they are.
func TestAnyFrames(t *testing.T) {
	r := rand.New(rand.NewSource(1616))
	numbers := append(append(append(strange(), beyond()...), someEpochs()...), somePages()...)
	written := 0
	for range 40000 {
		f := api.Frame{Epoch: numbers[r.Intn(len(numbers))], Index: numbers[r.Intn(len(numbers))], Page: numbers[r.Intn(len(numbers))], Commit: r.Intn(2) == 0}
		switch r.Intn(3) {
		case 0:
			f.Data = anyBytes(r, 200)
		case 1:
			f.Data = strings.Repeat("m", 201+r.Intn(200))
		}
		if Right(f) {
			written++
			wantFrame(t, "may be written", Print(f), f)
		} else if f.Data != "" || f.Commit {
			wantNone(t, "may not be written", Print(f))
		}
	}
	if written < 500 {
		t.Errorf("only %d frames that may be written", written)
	}
}

func TestManyAtOnce(t *testing.T) {
	var all sync.WaitGroup
	for i := range 8 {
		all.Go(func() {
			data := strings.Repeat(string(rune('a'+i)), 200)
			for n := range 200 {
				f := api.Frame{Epoch: i + 1, Index: n, Page: n, Data: data}
				got, is := Parse(Print(f))
				_, none := Parse(Print(f)[1:])
				if Print(f) != sectorOfFrame(f) || !is || got != f || none || !Right(f) {
					t.Errorf("goroutine %d: another frame %d", i, n)
				}
			}
		})
	}
	all.Wait()
}
