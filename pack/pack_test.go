package pack

import (
	"encoding/binary"
	"math"
	"math/rand"
	"strings"
	"sync"
	"testing"
)

// boxOf is a box of s that isn't Bad.
func boxOf(s string) *Box { return &Box{S: s} }

// wantBox wants a box to be left so.
func wantBox(t *testing.T, what string, b *Box, s string, bad bool) {
	t.Helper()
	if b.S != s || b.Bad != bad {
		t.Errorf("%s: left are %q, bad %t; want %q, bad %t", what, b.S, b.Bad, s, bad)
	}
}

// anyBytes is so many bytes of any.
func anyBytes(r *rand.Rand, n int) string {
	b := make([]byte, n)
	r.Read(b)
	return string(b)
}

// edges are the numbers on both sides of where a form takes one byte more, and of the kind's ends.
func edges() []int {
	l := []int{math.MinInt, math.MinInt + 1, math.MaxInt, math.MaxInt - 1, math.MaxInt32, math.MinInt32}
	for bits := range 63 {
		for by := -2; by <= 2; by++ {
			l = append(l, 1<<bits+by, -1<<bits+by)
		}
	}
	return l
}

// forms are numbers and their bytes, as the chapter tells them.
var forms = []struct {
	n    int
	form string
}{
	{0, "\x00"}, {-1, "\x01"}, {1, "\x02"}, {-2, "\x03"}, {2, "\x04"},
	{5, "\x0a"}, {-33, "\x41"}, {63, "\x7e"}, {-64, "\x7f"},
	{64, "\x80\x01"}, {-65, "\x81\x01"}, {65, "\x82\x01"}, {150, "\xac\x02"},
	{8191, "\xfe\x7f"}, {-8192, "\xff\x7f"}, {8192, "\x80\x80\x01"}, {-8193, "\x81\x80\x01"},
	{math.MaxInt32, "\xfe\xff\xff\xff\x0f"}, {math.MinInt32, "\xff\xff\xff\xff\x0f"},
	{math.MaxInt, "\xfe\xff\xff\xff\xff\xff\xff\xff\xff\x01"},
	{math.MinInt, "\xff\xff\xff\xff\xff\xff\xff\xff\xff\x01"},
	{math.MaxInt - 1, "\xfc\xff\xff\xff\xff\xff\xff\xff\xff\x01"},
	{math.MinInt + 1, "\xfd\xff\xff\xff\xff\xff\xff\xff\xff\x01"},
	{1<<62 - 1, "\xfe\xff\xff\xff\xff\xff\xff\xff\x7f"}, {-1 << 62, "\xff\xff\xff\xff\xff\xff\xff\xff\x7f"},
	{1 << 62, "\x80\x80\x80\x80\x80\x80\x80\x80\x80\x01"},
}

// noForms begin with the form of no number: nothing, bytes that end too early, noughts behind a shorter form, and too much for any number.
var noForms = []string{
	"", "\x80", "\xff", "\x80\x80", "\xff\xff\xff", strings.Repeat("\x80", 9), strings.Repeat("\xff", 9),
	"\x80\x00", "\x81\x00", "\xff\x00", "\x80\x80\x00", "\x80\x81\x00", "\xff\xff\xff\x00",
	strings.Repeat("\x80", 9) + "\x00", strings.Repeat("\xff", 9) + "\x00",
	strings.Repeat("\x80", 9) + "\x02", strings.Repeat("\xff", 9) + "\x02", strings.Repeat("\xff", 9) + "\x03",
	strings.Repeat("\xff", 9) + "\x7f", strings.Repeat("\xff", 9) + "\x80", strings.Repeat("\xff", 9) + "\x81",
	strings.Repeat("\x80", 10), strings.Repeat("\x80", 10) + "\x00", strings.Repeat("\x80", 10) + "\x01",
	strings.Repeat("\x80", 9) + "\x81\x00", strings.Repeat("\xff", 9) + "\x81\x00", strings.Repeat("\xff", 10) + "\x01",
	strings.Repeat("\x80", 64) + "\x01", strings.Repeat("\xff", 1000), "\x80\x00ab", "\x80\x00\x02",
}

// P3.1

func TestNumForms(t *testing.T) {
	for _, c := range forms {
		if got := Num(c.n); got != c.form {
			t.Errorf("Num(%d): %x, want %x", c.n, got, c.form)
		}
	}
}

// TestNumInTurn counts 0, -1, 1, -2, 2 and so on, and tells the bytes of 0, 1, 2, 3, 4 by division.
func TestNumInTurn(t *testing.T) {
	n := 0
	for place := range 70000 {
		form := ""
		for rest := place; ; rest /= 128 {
			if rest < 128 {
				form += string([]byte{byte(rest)})
				break
			}
			form += string([]byte{byte(128 + rest%128)})
		}
		if got := Num(n); got != form {
			t.Fatalf("Num(%d): %x, want %x", n, got, form)
		}
		if n < 0 {
			n = -n
		} else {
			n = -n - 1
		}
	}
}

func TestNumOfAny(t *testing.T) {
	r := rand.New(rand.NewSource(31))
	l := edges()
	for range 20000 {
		l = append(l, int(r.Uint64()>>r.Intn(64)), -int(r.Uint64()>>r.Intn(64)))
	}
	for _, n := range l {
		if got, want := Num(n), string(binary.AppendVarint(nil, int64(n))); got != want {
			t.Fatalf("Num(%d): %x, want %x", n, got, want)
		}
	}
}

func TestTextForms(t *testing.T) {
	for s, want := range map[string]string{
		"":                       "\x00",
		"a":                      "\x02a",
		"ab":                     "\x04ab",
		"\x00":                   "\x02\x00",
		"\xff\xfe":               "\x04\xff\xfe",
		"\u00e4\u20ac":           "\x0a\xc3\xa4\xe2\x82\xac",
		strings.Repeat("x", 63):  "\x7e" + strings.Repeat("x", 63),
		strings.Repeat("x", 64):  "\x80\x01" + strings.Repeat("x", 64),
		strings.Repeat("y", 300): "\xd8\x04" + strings.Repeat("y", 300),
		"\x04ab":                 "\x06\x04ab",
	} {
		if got := Text(s); got != want {
			t.Errorf("Text(%q): %q, want %q", s, got, want)
		}
	}
	long := strings.Repeat("l", 100000)
	if got := Text(long); got != Num(100000)+long {
		t.Errorf("Text of 100000 bytes: %.8q of %d bytes", got, len(got))
	}
}

// P3.2

func TestBoxNum(t *testing.T) {
	for _, c := range forms {
		for _, behind := range []string{"", "\x00", "\x80", "\xff", "ab", c.form} {
			b := boxOf(c.form + behind)
			if got := b.Num(); got != c.n {
				t.Errorf("%x: %d, want %d", c.form, got, c.n)
			}
			wantBox(t, "a number", b, behind, false)
		}
	}
}

// TestBoxNumOfNone wants nothing to be taken off, since nothing was read.
func TestBoxNumOfNone(t *testing.T) {
	for _, s := range noForms {
		b := boxOf(s)
		if n := b.Num(); n != 0 {
			t.Errorf("%x: %d, want 0", s, n)
		}
		wantBox(t, "no number", b, s, true)
	}
}

// TestBoxStaysBad wants a Bad box, whatever made it so, to read nothing any more.
func TestBoxStaysBad(t *testing.T) {
	for _, s := range []string{"", "\x02", "\x02\x04", "\x04ab", "\x00", "\x80", "\x00\x00\x00"} {
		b := &Box{S: s, Bad: true}
		if n := b.Num(); n != 0 {
			t.Errorf("Num of a Bad box of %q: %d", s, n)
		}
		wantBox(t, "Num", b, s, true)
		if n := b.Between(-9, 9); n != 0 {
			t.Errorf("Between of a Bad box of %q: %d", s, n)
		}
		if n := b.Between(1, 9); n != 0 {
			t.Errorf("Between 1 and 9 of a Bad box of %q: %d", s, n)
		}
		wantBox(t, "Between", b, s, true)
		if got := b.Text(9); got != "" {
			t.Errorf("Text of a Bad box of %q: %q", s, got)
		}
		wantBox(t, "Text", b, s, true)
		if b.Done() {
			t.Errorf("a Bad box of %q is done", s)
		}
		wantBox(t, "Done", b, s, true)
	}
}

func TestBoxBetween(t *testing.T) {
	for _, c := range []struct {
		n, low, high int
		good         bool
	}{
		{7, 0, 7, true}, {7, 7, 7, true}, {7, 7, 9, true}, {7, 0, 6, false}, {7, 8, 9, false}, {7, 9, 0, false}, {7, 8, 6, false},
		{0, 0, 0, true}, {0, -1, 1, true}, {0, 1, 2, false}, {0, -2, -1, false}, {0, 0, -1, false}, {0, 1, 0, false}, {0, 1, -1, false},
		{-5, -5, -5, true}, {-5, -9, 0, true}, {-5, -4, 9, false}, {-5, -9, -6, false}, {-5, 0, 9, false},
		{math.MaxInt, math.MinInt, math.MaxInt, true}, {math.MinInt, math.MinInt, math.MaxInt, true},
		{math.MaxInt, math.MaxInt, math.MaxInt, true}, {math.MinInt, math.MinInt, math.MinInt, true},
		{math.MaxInt, math.MinInt, math.MaxInt - 1, false}, {math.MinInt, math.MinInt + 1, math.MaxInt, false},
		{math.MaxInt, math.MaxInt, math.MinInt, false}, {math.MinInt, math.MaxInt, math.MinInt, false}, {0, math.MaxInt, math.MinInt, false},
	} {
		b := boxOf(Num(c.n) + "!")
		want := 0
		if c.good {
			want = c.n
		}
		if got := b.Between(c.low, c.high); got != want {
			t.Errorf("%d, between %d and %d: %d", c.n, c.low, c.high, got)
		}
		wantBox(t, "a number, read, though it may be a wrong one", b, "!", !c.good)
	}
}

func TestBoxBetweenOfNone(t *testing.T) {
	for _, s := range noForms {
		for _, low := range []int{-1, 0, 1, math.MinInt} {
			b := boxOf(s)
			if n := b.Between(low, math.MaxInt); n != 0 {
				t.Errorf("%x, from %d on: %d, want 0", s, low, n)
			}
			wantBox(t, "no number", b, s, true)
		}
	}
}

func TestBoxText(t *testing.T) {
	for _, c := range []struct {
		s          string
		most       int
		want, left string
		bad        bool
	}{
		{"\x04ab", 2, "ab", "", false},
		{"\x04ab", 60, "ab", "", false},
		{"\x04ab", math.MaxInt, "ab", "", false},
		{"\x04ab!", 2, "ab", "!", false},
		{"\x04ab", 1, "", "ab", true},
		{"\x04ab", 0, "", "ab", true},
		{"\x04ab", -1, "", "ab", true},
		{"\x04ab", math.MinInt, "", "ab", true},
		{"\x04a", 2, "", "a", true},
		{"\x04", 2, "", "", true},
		{"\x06ab", 2, "", "ab", true},
		{"\x06ab", 3, "", "ab", true},
		{"\x00", 0, "", "", false},
		{"\x00", 9, "", "", false},
		{"\x00\x00", 0, "", "\x00", false},
		{"\x00", -1, "", "", true},
		{"\x01", 9, "", "", true},
		{"\x01a", 9, "", "a", true},
		{"\x03ab", math.MaxInt, "", "ab", true},
		{"\x02\x00", 1, "\x00", "", false},
		{"\x04\xff\x80\x80", 2, "\xff\x80", "\x80", false},
		{Num(math.MinInt) + "ab", math.MaxInt, "", "ab", true},
		{Num(math.MaxInt) + "ab", math.MaxInt, "", "ab", true},
		{Num(math.MaxInt) + "ab", 5, "", "ab", true},
		{Text(strings.Repeat("x", 64)) + "y", 64, strings.Repeat("x", 64), "y", false},
		{Text(strings.Repeat("x", 64)) + "y", 63, "", strings.Repeat("x", 64) + "y", true},
	} {
		b := boxOf(c.s)
		if got := b.Text(c.most); got != c.want {
			t.Errorf("%q, at most %d: %q, want %q", c.s, c.most, got, c.want)
		}
		wantBox(t, "a text", b, c.left, c.bad)
	}
}

func TestBoxTextOfNone(t *testing.T) {
	for _, s := range noForms {
		b := boxOf(s)
		if got := b.Text(math.MaxInt); got != "" {
			t.Errorf("%x: %q, want nothing", s, got)
		}
		wantBox(t, "no text", b, s, true)
	}
}

func TestBoxDone(t *testing.T) {
	for _, c := range []struct {
		b    Box
		want bool
	}{
		{Box{}, true}, {Box{S: "", Bad: true}, false}, {Box{S: "\x00"}, false}, {Box{S: "a", Bad: true}, false}, {Box{S: "\x80"}, false},
	} {
		b := c.b
		if got := b.Done(); got != c.want || b != c.b {
			t.Errorf("%+v: done is %t, and then it's %+v", c.b, got, b)
		}
	}
}

// TestBoxOneByOne goes on behind each read, up to one that is Bad.
func TestBoxOneByOne(t *testing.T) {
	b := boxOf("\x80\x01\x05\x04ab\x00\x03cd")
	if n := b.Num(); n != 64 {
		t.Errorf("the first: %d", n)
	}
	if n := b.Between(-3, -3); n != -3 {
		t.Errorf("the second: %d", n)
	}
	if s := b.Text(2); s != "ab" {
		t.Errorf("the third: %q", s)
	}
	if s := b.Text(0); s != "" || b.Done() {
		t.Errorf("the fourth: %q", s)
	}
	wantBox(t, "four of them", b, "\x03cd", false)
	if n := b.Between(0, 5); n != 0 {
		t.Errorf("the last: %d", n)
	}
	if s := b.Text(2); s != "" || b.Num() != 0 || b.Done() {
		t.Errorf("behind a Bad one: %q", s)
	}
	wantBox(t, "all of them", b, "cd", true)
}

// TestNoBox wants no panic where there is no box at all.
func TestNoBox(t *testing.T) {
	var b *Box
	if b.Num() != 0 || b.Between(-1, 1) != 0 || b.Between(1, -1) != 0 || b.Text(9) != "" || b.Text(-1) != "" || b.Done() {
		t.Error("there is something in no box")
	}
}

// TestBoxesAreApart wants one box's reading to leave a copy as it was.
func TestBoxesAreApart(t *testing.T) {
	b := Box{S: "\x02\x04\x04ab"}
	other := b
	b.Num()
	b.Between(0, 1)
	wantBox(t, "a box", &b, "\x04ab", true)
	wantBox(t, "its copy", &other, "\x02\x04\x04ab", false)
}

func TestManyAtOnce(t *testing.T) {
	bad := &Box{S: "\x02", Bad: true}
	var all sync.WaitGroup
	for i := range 8 {
		all.Go(func() {
			own := strings.Repeat(string(rune('a'+i)), 10*i)
			for n := -300; n < 300; n++ {
				b := boxOf(Num(n*i) + Text(own))
				if b.Num() != n*i || b.Text(10*i) != own || !b.Done() || bad.Num() != 0 || bad.Text(3) != "" {
					t.Errorf("goroutine %d: another number or text", i)
				}
			}
		})
	}
	all.Wait()
}

// P3.3

func TestThereAndBack(t *testing.T) {
	r := rand.New(rand.NewSource(32))
	for _, n := range edges() {
		if b := boxOf(Num(n)); b.Num() != n || !b.Done() {
			t.Errorf("%d: not the same there and back", n)
		}
		if b := boxOf(Num(n)); b.Between(n, n) != n || !b.Done() {
			t.Errorf("%d: not the same there and back, by Between", n)
		}
	}
	for n := range 400 {
		s := anyBytes(r, n)
		if b := boxOf(Text(s)); b.Text(n) != s || !b.Done() {
			t.Errorf("%q: not the same there and back", s)
		}
	}
}

// read tells which number s is the form of, if of any.
func read(s string) (int, bool) {
	b := boxOf(s)
	n := b.Num()
	return n, b.Done()
}

// TestOneFormOfFewBytes goes through all texts of up to two bytes, and through those of three whose first two have one behind them.
func TestOneFormOfFewBytes(t *testing.T) {
	seen := map[int]string{}
	look := func(b ...byte) {
		s := string(b)
		n, good := read(s)
		if good != (Num(n) == s) {
			t.Fatalf("%x reads as %d, %t, which has the form %x", s, n, good, Num(n))
		}
		if was, there := seen[n]; good && there {
			t.Fatalf("%d has two forms: %x and %x", n, was, s)
		}
		if good {
			seen[n] = s
		}
	}
	for a := range 256 {
		look(byte(a))
		for b := range 256 {
			look(byte(a), byte(b))
		}
	}
	for a := 128; a < 256; a += 3 {
		for b := 128; b < 256; b++ {
			for c := range 256 {
				look(byte(a), byte(b), byte(c))
			}
		}
	}
	for n := -8192; n < 8192; n++ {
		if seen[n] == "" {
			t.Fatalf("%d has no form of up to two bytes", n)
		}
	}
}

// wantOneForm wants s, if it reads as a number or as a text, to be just its form.
func wantOneForm(t *testing.T, s string) {
	t.Helper()
	b := boxOf(s)
	n := b.Num()
	if want := s[:len(s)-len(b.S)]; !b.Bad && Num(n) != want {
		t.Fatalf("%x reads as %d, whose form is %x", want, n, Num(n))
	}
	b = boxOf(s)
	text := b.Text(math.MaxInt)
	if want := s[:len(s)-len(b.S)]; !b.Bad && Text(text) != want {
		t.Fatalf("%x reads as %q, whose form is %x", want, text, Text(text))
	}
}

func TestOneFormOfAnyBytes(t *testing.T) {
	r := rand.New(rand.NewSource(33))
	for range 100000 {
		b := []byte(anyBytes(r, r.Intn(14)))
		for i := range b {
			switch r.Intn(4) {
			case 0:
				b[i] |= 128
			case 1:
				b[i] &= 3
			case 2:
				b[i] = 128 | b[i]&1
			}
		}
		wantOneForm(t, string(b))
	}
	for _, n := range edges() {
		form := Num(n)
		last := len(form) - 1
		for by := 1; by < 256; by++ {
			wantOneForm(t, form[:last]+string([]byte{form[last] ^ byte(by)}))
		}
		wantOneForm(t, form[:last]+string([]byte{form[last] | 128, 0}))
	}
}
