package slab

import (
	"math"
	"math/rand"
	"reflect"
	"slices"
	"strings"
	"sync"
	"testing"

	"mosaicist/api"
)

// The tests are of P1.1, but for TestSureIsSure and the one behind it, which are of P1.2.

// sector is a sector that begins so, with noughts behind.
func sector(begin string) string {
	return begin + strings.Repeat("\x00", 256-len(begin))
}

// made is a device whose sectors begin so, all of them sure, and that did no deed yet.
func made(begins ...string) api.Slab {
	s := api.Slab{Left: -1}
	for _, b := range begins {
		s.Sure = append(s.Sure, sector(b))
	}
	return s
}

// put writes, and wants no error.
func put(t *testing.T, s api.Slab, at int, data string) api.Slab {
	t.Helper()
	s, err := Put(s, at, data)
	if err != api.OK {
		t.Fatalf("Put(%d): error %d", at, err)
	}
	return s
}

// flush flushes, and wants no error.
func flush(t *testing.T, s api.Slab) api.Slab {
	t.Helper()
	s, err := Flush(s)
	if err != api.OK {
		t.Fatalf("Flush: error %d", err)
	}
	return s
}

// wantAt wants a sector to be got that begins so, with noughts behind.
func wantAt(t *testing.T, s api.Slab, at int, begin string) {
	t.Helper()
	_, data, err := Get(s, at)
	if err != api.OK || data != sector(begin) {
		t.Errorf("Get(%d): %.8q of %d bytes, error %d, want %q", at, data, len(data), err, begin)
	}
}

// wantSure wants these to be all sectors that are sure.
func wantSure(t *testing.T, s api.Slab, begins ...string) {
	t.Helper()
	if want := made(begins...).Sure; !slices.Equal(s.Sure, want) {
		t.Errorf("sure: %q, want %q", heads(s.Sure), begins)
	}
}

func heads(sectors []string) []string {
	var l []string
	for _, s := range sectors {
		l = append(l, strings.TrimRight(s, "\x00"))
	}
	return l
}

// same compares devices; a list that holds nothing may be nil or empty.
func same(a, b api.Slab) bool {
	return slices.Equal(a.Sure, b.Sure) && slices.Equal(a.Late, b.Late) && a.Dead == b.Dead && a.Left == b.Left && a.Deeds == b.Deeds
}

// copied shares nothing with the device.
func copied(s api.Slab) api.Slab {
	s.Sure, s.Late = slices.Clone(s.Sure), slices.Clone(s.Late)
	return s
}

// roomy is the device with its lists' spare room as parts of them.
func roomy(s api.Slab) api.Slab {
	s.Sure, s.Late = s.Sure[:cap(s.Sure)], s.Late[:cap(s.Late)]
	return s
}

func TestNew(t *testing.T) {
	for _, n := range []int{1, 2, 3, 1999, 2000} {
		s, err := New(n)
		if err != api.OK || len(s.Sure) != n || len(s.Late) != 0 || s.Dead || s.Left != -1 || s.Deeds != 0 {
			t.Fatalf("New(%d): %d sectors, Left %d, Deeds %d, error %d", n, len(s.Sure), s.Left, s.Deeds, err)
		}
		for at, got := range s.Sure {
			if got != sector("") {
				t.Fatalf("New(%d): sector %d isn't 256 noughts", n, at)
			}
		}
	}
}

func TestNewOfTooFewOrMany(t *testing.T) {
	for _, n := range []int{0, -1, 2001, 1 << 32, math.MinInt, math.MaxInt} {
		s, err := New(n)
		if err != api.ErrArg || !reflect.DeepEqual(s, api.Slab{}) {
			t.Errorf("New(%d): %d sectors, error %d", n, len(s.Sure), err)
		}
	}
}

func TestGetIsWhatWasWrittenLast(t *testing.T) {
	s := made("a", "b", "c")
	wantAt(t, s, 0, "a")
	wantAt(t, s, 2, "c")
	s = put(t, s, 1, "one")
	s = put(t, s, 2, "q")
	wantAt(t, s, 1, "one")
	s = put(t, s, 1, "2")
	wantAt(t, s, 1, "2")
	wantAt(t, s, 2, "q")
	wantAt(t, s, 0, "a")
	s = flush(t, s)
	wantAt(t, s, 1, "2")
	s = put(t, s, 1, "three")
	wantAt(t, s, 1, "three")
	wantSure(t, s, "a", "2", "q")
}

func TestGetIsOneDeedAndNothingElse(t *testing.T) {
	s := put(t, made("a", "b"), 1, "x")
	want := copied(s)
	want.Deeds = 2
	got, _, err := Get(s, 0)
	if err != api.OK || !same(got, want) {
		t.Errorf("behind Get: %+v, error %d", got, err)
	}
}

func TestPutFillsUpWithNoughts(t *testing.T) {
	whole := strings.Repeat("w", 256)
	for _, data := range []string{"", "x", whole[:255], whole, "\x00", "a\x00b\xff"} {
		s := put(t, made("", whole), 1, data)
		wantAt(t, s, 1, data)
		if !slices.Equal(s.Late, []api.Late{{At: 1, Data: sector(data)}}) {
			t.Errorf("Put of %d bytes: %d writes aren't sure", len(data), len(s.Late))
		}
		wantSure(t, s, "", whole)
		wantSure(t, flush(t, s), "", data)
	}
}

func TestPutIsOneDeedAndOneWriteMore(t *testing.T) {
	s := put(t, put(t, put(t, made("a", "b"), 1, "x"), 0, "y"), 1, "z")
	want := made("a", "b")
	want.Deeds = 3
	want.Late = []api.Late{{At: 1, Data: sector("x")}, {At: 0, Data: sector("y")}, {At: 1, Data: sector("z")}}
	if !same(s, want) {
		t.Errorf("behind three Puts: %+v", s)
	}
}

func TestFlushMakesAllSureInOrder(t *testing.T) {
	s := made("a", "b", "c")
	for _, data := range []string{"first", "x", "last"} {
		s = put(t, s, 2, data)
	}
	s = flush(t, put(t, s, 0, "q"))
	want := made("q", "b", "last")
	want.Deeds = 5
	if !same(s, want) {
		t.Errorf("behind Flush: %+v", s)
	}
	if s = flush(t, s); s.Deeds != 6 {
		t.Errorf("Flush of nothing: %d deeds, want 6", s.Deeds)
	}
	wantSure(t, s, "q", "b", "last")
}

func TestNoSuchSector(t *testing.T) {
	s := put(t, made("a", "b", "c"), 1, "x")
	armed, dead := Arm(s, 0), Arm(s, 4)
	dead.Dead = true
	for _, d := range []api.Slab{s, armed, dead} {
		for _, at := range []int{-1, 3, 4, 1 << 32, math.MinInt, math.MaxInt} {
			got, data, err := Get(d, at)
			if err != api.ErrArg || data != "" || !same(got, d) {
				t.Errorf("Get(%d): %q, error %d, device %+v", at, data, err, got)
			}
			got, err = Put(d, at, "x")
			if err != api.ErrArg || !same(got, d) {
				t.Errorf("Put(%d): error %d, device %+v", at, err, got)
			}
		}
	}
}

func TestTooManyBytes(t *testing.T) {
	s := put(t, made("a", "b"), 1, "x")
	for _, d := range []api.Slab{s, Arm(s, 0)} {
		for _, size := range []int{257, 258, 512, 100000} {
			got, err := Put(d, 0, strings.Repeat("x", size))
			if err != api.ErrArg || !same(got, d) {
				t.Errorf("Put of %d bytes: error %d, device %+v", size, err, got)
			}
		}
	}
}

// wantDown wants every deed to be refused, and nothing but Dead to change by it.
func wantDown(t *testing.T, s api.Slab) {
	t.Helper()
	want := copied(s)
	want.Dead = true
	got, data, err := Get(s, 0)
	if err != api.ErrDown || data != "" || !same(got, want) {
		t.Errorf("Get without power: %.8q, error %d, device %+v", data, err, got)
	}
	got, err = Put(s, 0, "x")
	if err != api.ErrDown || !same(got, want) {
		t.Errorf("Put without power: error %d, device %+v", err, got)
	}
	got, err = Flush(s)
	if err != api.ErrDown || !same(got, want) {
		t.Errorf("Flush without power: error %d, device %+v", err, got)
	}
}

func TestWithoutPower(t *testing.T) {
	s := put(t, made("a", "b"), 0, "q")
	wantDown(t, Arm(s, 0))
	for _, left := range []int{0, 1, 7, -1, -7, math.MinInt, math.MaxInt} {
		d := s
		d.Dead, d.Left = true, left
		wantDown(t, d)
	}
}

func TestDeedsUntilThePowerGoes(t *testing.T) {
	s := Arm(made("a", "b"), 3)
	s, _, _ = Get(s, 0)
	s = put(t, s, 1, "x")
	if s.Left != 1 || s.Deeds != 2 || s.Dead {
		t.Errorf("behind two of three deeds: Left %d, Deeds %d, Dead %t", s.Left, s.Deeds, s.Dead)
	}
	s = flush(t, s)
	if s.Left != 0 || s.Deeds != 3 || s.Dead {
		t.Errorf("behind three deeds: Left %d, Deeds %d, Dead %t", s.Left, s.Deeds, s.Dead)
	}
	wantDown(t, s)
}

func TestAnyNumberOfDeeds(t *testing.T) {
	for _, left := range []int{-1, -7, math.MinInt} {
		s := made("a")
		s.Left = left
		for range 50 {
			s = flush(t, put(t, s, 0, "x"))
		}
		if s.Left != left || s.Deeds != 100 || s.Dead {
			t.Errorf("Left %d: behind 100 deeds Left %d, Deeds %d", left, s.Left, s.Deeds)
		}
	}
	s := made("a")
	s.Left, s.Deeds = math.MaxInt, 9
	if s = flush(t, s); s.Left != math.MaxInt-1 || s.Deeds != 10 {
		t.Errorf("of the most: Left %d, Deeds %d", s.Left, s.Deeds)
	}
}

func TestArm(t *testing.T) {
	s := put(t, made("a", "b"), 1, "x")
	dead := s
	dead.Dead = true
	for _, d := range []api.Slab{s, dead} {
		for n, left := range map[int]int{0: 0, 1: 1, 1000: 1000, math.MaxInt: math.MaxInt, -1: -1, -2: -1, -7: -1, math.MinInt: -1} {
			want := copied(d)
			want.Left = left
			if got := Arm(d, n); !same(got, want) {
				t.Errorf("Arm(%d): %+v", n, got)
			}
		}
	}
	if again := Arm(Arm(s, 0), 2); again.Left != 2 {
		t.Errorf("armed again: Left %d", again.Left)
	}
}

func TestStartKeepsThoseThatStay(t *testing.T) {
	s := made("a", "b", "c")
	for at, data := range []string{"x", "y", "z"} {
		s = put(t, s, at, data)
	}
	none := api.Fate{Torn: -1}
	wantSure(t, Start(s, none), "a", "b", "c")
	for stay := range 8 {
		want := []string{"a", "b", "c"}
		for i, data := range []string{"x", "y", "z"} {
			if stay>>i&1 == 1 {
				want[i] = data
			}
		}
		wantSure(t, Start(s, api.Fate{Stay: uint64(stay), Torn: -1}), want...)
	}
	wantSure(t, Start(s, api.Fate{Stay: math.MaxUint64, Torn: 3, Bytes: 0}), "x", "y", "z")
}

func TestStartGoesInOrder(t *testing.T) {
	s := made("a")
	for _, data := range []string{"one", "two", "four!"} {
		s = put(t, s, 0, data)
	}
	for stay, want := range map[uint64]string{0: "a", 1: "one", 2: "two", 3: "two", 4: "four!", 5: "four!", 6: "four!", 7: "four!"} {
		wantSure(t, Start(s, api.Fate{Stay: stay, Torn: -1}), want)
	}
	wantSure(t, Start(s, api.Fate{Stay: 1, Torn: 1, Bytes: 1}), "tne")
	wantSure(t, Start(s, api.Fate{Stay: 4, Torn: 1, Bytes: 1}), "four!")
	wantSure(t, Start(s, api.Fate{Stay: 2, Torn: 2, Bytes: 2}), "foo")
	wantSure(t, Start(s, api.Fate{Stay: 1, Torn: 0, Bytes: 0}), "a")
}

func TestStartTakesBitsModulo64(t *testing.T) {
	s, _ := New(130)
	for at := range 130 {
		s = put(t, s, at, "x")
	}
	for _, bit := range []int{0, 1, 63} {
		got := Start(s, api.Fate{Stay: 1 << bit, Torn: 64 + bit})
		for at := range 130 {
			want := ""
			if at%64 == bit && at != 64+bit {
				want = "x"
			}
			if got.Sure[at] != sector(want) {
				t.Errorf("bit %d: sector %d is %.4q, want %q", bit, at, got.Sure[at], want)
			}
		}
	}
}

func TestStartTearsOne(t *testing.T) {
	old, fresh := strings.Repeat("o", 256), strings.Repeat("n", 256)
	s := put(t, made(old, ""), 0, fresh)
	cuts := map[int]int{0: 0, 1: 1, 128: 128, 255: 255, 256: 256, 257: 256, 300: 256, math.MaxInt: 256, -1: 0, -5: 0, math.MinInt: 0}
	for bytes, n := range cuts {
		for _, stay := range []uint64{0, 1, math.MaxUint64} {
			got := Start(s, api.Fate{Stay: stay, Torn: 0, Bytes: bytes})
			wantSure(t, got, fresh[:n]+old[n:], "")
		}
	}
	for _, torn := range []int{-1, 1, 64, math.MinInt, math.MaxInt} {
		wantSure(t, Start(s, api.Fate{Torn: torn, Bytes: 5}), old, "")
		wantSure(t, Start(s, api.Fate{Stay: 1, Torn: torn, Bytes: 5}), fresh, "")
	}
}

func TestTornWriteBringsItsNoughts(t *testing.T) {
	s := put(t, made("abcdef"), 0, "xy")
	for bytes, want := range map[int]string{1: "xbcdef", 2: "xycdef", 3: "xy\x00def", 5: "xy\x00\x00\x00f", 6: "xy"} {
		wantSure(t, Start(s, api.Fate{Torn: 0, Bytes: bytes}), want)
	}
	wantSure(t, Start(s, api.Fate{Stay: 1, Torn: -1}), "xy")
}

func TestExampleOfTheChapter(t *testing.T) {
	s := flush(t, put(t, made("", "", ""), 1, "ab"))
	s = put(t, s, 1, "xyz")
	wantSure(t, Start(s, api.Fate{Torn: 0, Bytes: 1}), "", "xb", "")
}

func TestStartMakesADeviceWithPower(t *testing.T) {
	s := put(t, made("a", "b"), 0, "x")
	dead, _ := Flush(Arm(s, 0))
	for _, d := range []api.Slab{s, Arm(s, 7), dead, Start(s, api.Fate{Torn: -1})} {
		if got := Start(d, api.Fate{Torn: -1}); !same(got, made("a", "b")) {
			t.Errorf("started: %+v", got)
		}
	}
	wantSure(t, flush(t, put(t, Start(dead, api.Fate{Stay: 1, Torn: -1}), 1, "y")), "x", "y")
}

// TestSureIsSure is P1.2: no fate, and no want of power, touches what was flushed.
func TestSureIsSure(t *testing.T) {
	s := flush(t, put(t, put(t, made("", "", ""), 0, "ab"), 2, "cd"))
	late := put(t, put(t, s, 1, "x"), 1, "y")
	down, _ := Put(Arm(late, 0), 0, "never")
	for _, d := range []api.Slab{s, late, down} {
		for stay := range uint64(4) {
			for torn := -1; torn < 3; torn++ {
				got := Start(d, api.Fate{Stay: stay, Torn: torn, Bytes: 1})
				wantAt(t, got, 0, "ab")
				wantAt(t, got, 2, "cd")
			}
		}
	}
}

func TestAFlushThatIsRefusedMakesNothingSure(t *testing.T) {
	s := put(t, made("a", "b"), 1, "x")
	s, err := Flush(Arm(s, 0))
	if err != api.ErrDown {
		t.Errorf("Flush without power: error %d", err)
	}
	wantSure(t, Start(s, api.Fate{Torn: -1}), "a", "b")
	wantSure(t, Start(s, api.Fate{Stay: 1, Torn: -1}), "a", "x")
}

// TestHandedInStays wants no call to change what it was handed, spare room neither.
func TestHandedInStays(t *testing.T) {
	s := made("a", "b", "c")
	s.Sure = append(make([]string, 0, 9), s.Sure...)
	s.Late = append(make([]api.Late, 0, 9), api.Late{At: 1, Data: sector("x")}, api.Late{At: 2, Data: sector("y")})
	before := copied(roomy(s))
	Get(s, 1)
	Put(s, 1, "z")
	Flush(s)
	Arm(s, 3)
	Start(s, api.Fate{Stay: 3, Torn: 0, Bytes: 1})
	if !same(before, roomy(s)) {
		t.Error("a call has changed what it was handed")
	}
}

func TestDevicesGoTheirOwnWays(t *testing.T) {
	s := put(t, put(t, put(t, made("a", "b"), 0, "1"), 0, "2"), 0, "3")
	left, right := put(t, s, 1, "left"), put(t, s, 1, "right")
	wantAt(t, left, 1, "left")
	wantAt(t, right, 1, "right")
	wantAt(t, s, 1, "b")
	wantSure(t, flush(t, left), "3", "left")
	wantSure(t, flush(t, right), "3", "right")
	wantSure(t, s, "a", "b")
}

// TestRawDevices hands in what no call has made: nothing panics, and sectors that aren't there stay away.
func TestRawDevices(t *testing.T) {
	var none api.Slab
	if _, _, err := Get(none, 0); err != api.ErrArg {
		t.Errorf("Get of no sector: error %d", err)
	}
	if _, err := Put(none, 0, ""); err != api.ErrArg {
		t.Errorf("Put of no sector: error %d", err)
	}
	if _, err := Flush(Arm(none, -1)); err != api.OK {
		t.Errorf("Flush of no sector: error %d", err)
	}
	raw := api.Slab{Sure: []string{"a", sector("b")}, Left: -1}
	for _, at := range []int{-1, 2, math.MinInt, math.MaxInt, 1} {
		raw.Late = append(raw.Late, api.Late{At: at, Data: sector("x")})
	}
	want := []string{"a", sector("x")}
	if got := flush(t, raw); !slices.Equal(got.Sure, want) {
		t.Errorf("flushed: %q", heads(got.Sure))
	}
	if got := Start(raw, api.Fate{Stay: math.MaxUint64, Torn: 0}); !slices.Equal(got.Sure, want) {
		t.Errorf("started: %q", heads(got.Sure))
	}
	wantAt(t, raw, 1, "x")
}

func TestRawWritesOfAnySize(t *testing.T) {
	long := strings.Repeat("l", 300)
	raw := api.Slab{Sure: []string{"abc", "", sector("d")}, Left: -1}
	raw.Late = []api.Late{{At: 0, Data: "x"}, {At: 1, Data: "y"}, {At: 2, Data: long}}
	for torn := -1; torn < 4; torn++ {
		for _, bytes := range []int{-1, 0, 1, 2, 256, 300} {
			for stay := range uint64(8) {
				Start(raw, api.Fate{Stay: stay, Torn: torn, Bytes: bytes})
			}
		}
	}
	got := Start(raw, api.Fate{Stay: 2, Torn: 0, Bytes: 256})
	if !slices.Equal(got.Sure, []string{"xbc", "y", sector("d")}) {
		t.Errorf("started: %q", heads(got.Sure))
	}
}

// plain is a device told another way: bytes that are sure, and writes that aren't, as a log of bytes.
type plain struct {
	sure [][256]byte
	late []struct {
		at   int
		data [256]byte
	}
}

func (p *plain) put(at int, data string) {
	p.late = append(p.late, struct {
		at   int
		data [256]byte
	}{at: at})
	copy(p.late[len(p.late)-1].data[:], data)
}

// settle lays byte by byte those bytes of the writes over their sectors that stay.
func (p *plain) settle(stays func(i, at int) bool) {
	for i, w := range p.late {
		for at, b := range w.data {
			if stays(i, at) {
				p.sure[w.at][at] = b
			}
		}
	}
	p.late = nil
}

func (p *plain) start(f api.Fate) {
	p.settle(func(i, at int) bool {
		if i == f.Torn {
			return at < f.Bytes
		}
		return f.Stay&(1<<(uint(i)%64)) != 0
	})
}

func (p *plain) get(at int) string {
	data := p.sure[at]
	for _, w := range p.late {
		if w.at == at {
			data = w.data
		}
	}
	return string(data[:])
}

// TestAsPlain holds long runs of calls against the plain device.
func TestAsPlain(t *testing.T) {
	r := rand.New(rand.NewSource(1))
	const sectors = 5
	s, _ := New(sectors)
	p := plain{sure: make([][256]byte, sectors)}
	for step := range 4000 {
		at := r.Intn(sectors)
		switch k := r.Intn(100); {
		case k < 70:
			data := strings.Repeat(string(rune('a'+r.Intn(26))), r.Intn(257))
			s = put(t, s, at, data)
			p.put(at, data)
		case k < 97:
			got, data, err := Get(s, at)
			if s = got; err != api.OK || data != p.get(at) {
				t.Fatalf("step %d: Get(%d) is another one", step, at)
			}
		case k < 98:
			s = flush(t, s)
			p.settle(func(int, int) bool { return true })
		default:
			f := api.Fate{Stay: r.Uint64(), Torn: r.Intn(80) - 10, Bytes: r.Intn(300) - 20}
			s = Start(s, f)
			p.start(f)
		}
		for at := range sectors {
			if s.Sure[at] != string(p.sure[at][:]) {
				t.Fatalf("step %d: sector %d is another one", step, at)
			}
		}
	}
}

func TestManyAtOnce(t *testing.T) {
	s := put(t, put(t, made("a", "b"), 0, "x"), 1, "y")
	var all sync.WaitGroup
	for i := range 8 {
		all.Go(func() {
			own := string(rune('0' + i))
			for range 50 {
				wantSure(t, Start(s, api.Fate{Stay: 1, Torn: -1}), "x", "b")
				mine, _ := Put(s, 1, own)
				wantAt(t, mine, 1, own)
				mine, _ = Flush(mine)
				wantSure(t, mine, "x", own)
			}
		})
	}
	all.Wait()
}
