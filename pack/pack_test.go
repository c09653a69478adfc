package pack

import (
	"bytes"
	"math"
	"strings"
	"testing"

	"isobar/api"
)

// encodings are numbers with their bytes, worked out by hand from the chapter.
var encodings = []struct {
	n    int
	want string
}{
	{0, "\x00"},
	{1, "\x01"},
	{127, "\x7f"},
	{128, "\x80\x01"},
	{255, "\xff\x01"},
	{300, "\xac\x02"},
	{1<<14 - 1, "\xff\x7f"},
	{1 << 14, "\x80\x80\x01"},
	{1 << 56, "\x80\x80\x80\x80\x80\x80\x80\x80\x01"},
	{1<<56 - 1, "\xff\xff\xff\xff\xff\xff\xff\x7f"},
	{1<<60 - 1, "\xff\xff\xff\xff\xff\xff\xff\xff\x0f"},
}

// P1.1: the encoding of a number.
func TestNumberEncoding(t *testing.T) {
	for _, c := range encodings {
		if got := Number(nil, c.n); string(got) != c.want {
			t.Errorf("Number(nil, %d) = % x, want % x", c.n, got, c.want)
		}
	}
}

// P1.1: numbers beyond the range are clamped.
func TestNumberClamps(t *testing.T) {
	for _, n := range []int{-1, -5, -128, -1 << 60, math.MinInt} {
		if got := Number(nil, n); string(got) != "\x00" {
			t.Errorf("Number(nil, %d) = % x, want 00", n, got)
		}
	}
	top := "\xff\xff\xff\xff\xff\xff\xff\xff\x0f"
	for _, n := range []int{1 << 60, 1<<60 + 1, 1 << 62, math.MaxInt} {
		if got := Number(nil, n); string(got) != top {
			t.Errorf("Number(nil, %d) = % x, want % x", n, got, top)
		}
	}
}

// P1.1: the encoding of a string.
func TestTextEncoding(t *testing.T) {
	long := strings.Repeat("x", 300)
	cases := []struct{ s, want string }{
		{"", "\x00"},
		{"a", "\x01a"},
		{"ab", "\x02ab"},
		{"\x00\xff\x80", "\x03\x00\xff\x80"},
		{"é", "\x02\xc3\xa9"},
		{long[:127], "\x7f" + long[:127]},
		{long[:128], "\x80\x01" + long[:128]},
		{long, "\xac\x02" + long},
	}
	for _, c := range cases {
		if got := Text(nil, c.s); string(got) != c.want {
			t.Errorf("Text(nil, %q) = % x, want % x", c.s, got, c.want)
		}
	}
}

// P1.1: what was there stays in front.
func TestEncodingFollowsBytes(t *testing.T) {
	if got := Number([]byte("ab"), 300); string(got) != "ab\xac\x02" {
		t.Errorf("Number: %q", got)
	}
	if got := Text([]byte("ab"), "cd"); string(got) != "ab\x02cd" {
		t.Errorf("Text: %q", got)
	}
	if got := Text(Number([]byte{}, -5), ""); string(got) != "\x00\x00" {
		t.Errorf("behind an empty slice: %q", got)
	}
}

// R3: neither the argument nor the memory beyond its length is written, and
// no answer shares memory with it or with another answer.
func TestEncodingLeavesArgumentAlone(t *testing.T) {
	calls := map[string]func(b []byte) []byte{
		"Number":      func(b []byte) []byte { return Number(b, 300) },
		"Text":        func(b []byte) []byte { return Text(b, "xy") },
		"Text, empty": func(b []byte) []byte { return Text(b, "") },
	}
	for name, call := range calls {
		memory := []byte("abcdefghijklmnopqrstuvwxyz")
		before := bytes.Clone(memory)
		first := call(memory[:2])
		second := call(memory[:2])
		want := bytes.Clone(second)
		for i := range first {
			first[i] = '!'
		}
		_ = append(first, "????????????????????"...)
		if !bytes.Equal(memory, before) {
			t.Errorf("%s wrote into its argument's memory: %q", name, memory)
		}
		if !bytes.Equal(second, want) {
			t.Errorf("%s: two answers share memory: %q", name, second)
		}
	}
}

// P1.2: bytes that begin with a number.
func TestReadNumber(t *testing.T) {
	for _, c := range encodings {
		r := Read([]byte(c.want + "rest"))
		if got := r.Number(); got != c.n || r.Err() != api.OK || r.Left() != 4 || r.End() != api.ErrTail {
			t.Errorf("% x: %d, left %d, %v", c.want, got, r.Left(), r.Err())
		}
	}
}

// wantFailed checks all that a reader tells after an error.
func wantFailed(t *testing.T, name string, r *Reader, want api.Errno) {
	t.Helper()
	if r.Err() != want || r.End() != want || r.Left() != 0 {
		t.Errorf("%q: Err %v, End %v, Left %d, want %v", name, r.Err(), r.End(), r.Left(), want)
	}
	n, s := r.Number(), r.Text(math.MaxInt)
	if n != 0 || s != "" {
		t.Errorf("%q: decoded %d and %q after an error", name, n, s)
	}
	r.Text(-1)
	if r.Err() != want || r.End() != want || r.Left() != 0 {
		t.Errorf("%q: the first error did not stay: Err %v, End %v, Left %d", name, r.Err(), r.End(), r.Left())
	}
}

// P1.2: ErrArg and ErrShort of a number, and of a string's number.
func TestReadNumberErrors(t *testing.T) {
	cases := []struct {
		in   string
		want api.Errno
	}{
		{"", api.ErrShort},
		{"\x80", api.ErrShort},
		{"\xff", api.ErrShort},
		{"\x80\x80", api.ErrShort},
		{strings.Repeat("\x80", 8), api.ErrShort},
		{strings.Repeat("\xff", 8), api.ErrShort},
		{"\x80\x00", api.ErrArg},
		{"\xff\x00", api.ErrArg},
		{"\x80\x80\x00", api.ErrArg},
		{"\x80\x00rest", api.ErrArg},
		{strings.Repeat("\x80", 8) + "\x00", api.ErrArg},
		{strings.Repeat("\xff", 8) + "\x10", api.ErrArg},
		{strings.Repeat("\x80", 8) + "\x10", api.ErrArg},
		{strings.Repeat("\xff", 8) + "\x7f", api.ErrArg},
		{strings.Repeat("\x80", 9), api.ErrArg},
		{strings.Repeat("\x80", 8) + "\x81", api.ErrArg},
		{strings.Repeat("\x80", 9) + "\x01", api.ErrArg},
		{strings.Repeat("\xff", 9), api.ErrArg},
		{strings.Repeat("\xff", 40), api.ErrArg},
	}
	for _, c := range cases {
		r := Read([]byte(c.in))
		if n := r.Number(); n != 0 {
			t.Errorf("%q: Number %d", c.in, n)
		}
		wantFailed(t, "Number of "+c.in, r, c.want)
		r = Read([]byte(c.in))
		if s := r.Text(math.MaxInt); s != "" {
			t.Errorf("%q: Text %q", c.in, s)
		}
		wantFailed(t, "Text of "+c.in, r, c.want)
	}
}

// P1.2: every sequence of at most two bytes, against the encodings themselves.
func TestReadShortSequences(t *testing.T) {
	whole := map[string]int{}
	begins := map[string]int{"": 1}
	for n := range 1 << 15 {
		b := Number(nil, n)
		whole[string(b)] = n
		for i := range b {
			begins[string(b[:i])] = 1
		}
	}
	check := func(in string) {
		r := Read([]byte(in))
		n := r.Number()
		for i := 1; i <= len(in); i++ {
			if want, ok := whole[in[:i]]; ok {
				if n != want || r.Err() != api.OK || r.Left() != len(in)-i {
					t.Errorf("%q: %d, left %d, %v, want %d", in, n, r.Left(), r.Err(), want)
				}
				return
			}
		}
		want := api.ErrArg
		if begins[in] == 1 {
			want = api.ErrShort
		}
		if n != 0 || r.Err() != want || r.Left() != 0 {
			t.Errorf("%q: %d, left %d, %v, want %v", in, n, r.Left(), r.Err(), want)
		}
	}
	check("")
	for a := range 256 {
		check(string([]byte{byte(a)}))
		for b := range 256 {
			check(string([]byte{byte(a), byte(b)}))
		}
	}
}

// P1.2: the strings that Text returns.
func TestReadText(t *testing.T) {
	cases := []struct {
		in   string
		most int
		want string
		left int
	}{
		{"\x00", 0, "", 0},
		{"\x00ab", 5, "", 2},
		{"\x02ab", 2, "ab", 0},
		{"\x02abc", 3, "ab", 1},
		{"\x02ab", math.MaxInt, "ab", 0},
		{"\x03\x00\xff\x80", 3, "\x00\xff\x80", 0},
	}
	for _, c := range cases {
		r := Read([]byte(c.in))
		if got := r.Text(c.most); got != c.want || r.Err() != api.OK || r.Left() != c.left {
			t.Errorf("%q, %d: %q, left %d, %v", c.in, c.most, got, r.Left(), r.Err())
		}
		if tail := r.End() == api.ErrTail; tail != (c.left > 0) {
			t.Errorf("%q, %d: End %v with %d bytes left", c.in, c.most, r.End(), c.left)
		}
	}
}

// P1.2: too long comes ahead of too short.
func TestReadTextErrors(t *testing.T) {
	cases := []struct {
		in   string
		most int
		want api.Errno
	}{
		{"\x02ab", 1, api.ErrArg},
		{"\x03ab", 2, api.ErrArg},
		{"\x01a", 0, api.ErrArg},
		{"\x00", -1, api.ErrArg},
		{"\x00", math.MinInt, api.ErrArg},
		{"\x02ab", -1, api.ErrArg},
		{"\xff\xff\xff\xff\xff\xff\xff\xff\x0f", 16, api.ErrArg},
		{"\x03ab", 3, api.ErrShort},
		{"\x03ab", math.MaxInt, api.ErrShort},
		{"\x01", 1, api.ErrShort},
		{"\xff\xff\xff\xff\xff\xff\xff\xff\x0fa", math.MaxInt, api.ErrShort},
		{"", -1, api.ErrShort},
		{"\x80", -1, api.ErrShort},
	}
	for _, c := range cases {
		r := Read([]byte(c.in))
		if s := r.Text(c.most); s != "" {
			t.Errorf("%q, %d: %q", c.in, c.most, s)
		}
		wantFailed(t, "Text of "+c.in, r, c.want)
	}
}

// P1.2: an error behind what was decoded well, with bytes behind it.
func TestReadStopsAtFirstError(t *testing.T) {
	r := Read([]byte("\x05\x80\x00\x07\x02ab"))
	if n := r.Number(); n != 5 || r.Left() != 6 {
		t.Fatalf("Number %d, left %d", n, r.Left())
	}
	if n := r.Number(); n != 0 {
		t.Errorf("Number %d", n)
	}
	wantFailed(t, "second number", r, api.ErrArg)
}

// P1.2: End and Left as the bytes are used up; asking changes nothing.
func TestReadEnd(t *testing.T) {
	r := Read([]byte("\x07\x01a"))
	for _, left := range []int{3, 2} {
		if r.Left() != left || r.End() != api.ErrTail || r.Err() != api.OK {
			t.Errorf("left %d, End %v, Err %v", r.Left(), r.End(), r.Err())
		}
		if left == 3 {
			r.Number()
		}
	}
	if s := r.Text(1); s != "a" || r.Left() != 0 || r.End() != api.OK || r.Err() != api.OK {
		t.Errorf("%q, left %d, End %v, Err %v", s, r.Left(), r.End(), r.Err())
	}
	r.Number()
	wantFailed(t, "behind the end", r, api.ErrShort)
}

// R3: a reader stays within the length of its bytes, and reads them in place.
func TestReadMemory(t *testing.T) {
	memory := []byte("\x02ab")
	r := Read(memory[:2])
	if s := r.Text(2); s != "" || r.Err() != api.ErrShort {
		t.Errorf("read beyond the length: %q, %v", s, r.Err())
	}
	r = Read(memory)
	memory[1] = 'x'
	s := r.Text(2)
	memory[1] = 'y'
	if s != "xb" || string(memory) != "\x02yb" {
		t.Errorf("%q of %q", s, memory)
	}
}

// R6: readers of the same bytes are independent of each other.
func TestReadersAreIndependent(t *testing.T) {
	b := []byte("\x01\x80")
	one, other := Read(b), Read(b)
	one.Number()
	one.Number()
	if n := other.Number(); n != 1 || other.Err() != api.OK || one.Err() != api.ErrShort {
		t.Errorf("%d, %v, %v", n, other.Err(), one.Err())
	}
}

// P1.3: decoding returns what was encoded.
func TestRoundTrip(t *testing.T) {
	var numbers []int
	for bit := range 60 {
		for _, d := range []int{-1, 0, 1} {
			numbers = append(numbers, max(1<<bit+d, 0))
		}
	}
	numbers = append(numbers, 1<<60-1)
	texts := []string{"", "a", "\x00", "\x80\xff", strings.Repeat("z", 127), strings.Repeat("z", 128), strings.Repeat("z", 20000)}
	var b []byte
	for i, n := range numbers {
		b = Text(Number(b, n), texts[i%len(texts)])
	}
	r := Read(b)
	for i, n := range numbers {
		s := texts[i%len(texts)]
		if got := r.Number(); got != n {
			t.Fatalf("%d came back as %d, %v", n, got, r.Err())
		}
		if got := r.Text(len(s)); got != s {
			t.Fatalf("%q came back as %q, %v", s, got, r.Err())
		}
	}
	if r.End() != api.OK || r.Left() != 0 {
		t.Errorf("End %v, Left %d", r.End(), r.Left())
	}
}

// P1.3: a nil Reader.
func TestNilReader(t *testing.T) {
	var r *Reader
	if n, s := r.Number(), r.Text(5); n != 0 || s != "" {
		t.Errorf("decoded %d and %q", n, s)
	}
	if r.Text(-1) != "" || r.Left() != 0 || r.Err() != api.ErrShort || r.End() != api.ErrShort {
		t.Errorf("Left %d, Err %v, End %v", r.Left(), r.Err(), r.End())
	}
}

// P1.3, R4: a zero Reader, and readers of nil and empty slices.
func TestEmptyReaders(t *testing.T) {
	makers := map[string]func() *Reader{
		"zero":  func() *Reader { return &Reader{} },
		"nil":   func() *Reader { return Read(nil) },
		"empty": func() *Reader { return Read([]byte{}) },
	}
	for name, fresh := range makers {
		r := fresh()
		if r.Left() != 0 || r.Err() != api.OK || r.End() != api.OK {
			t.Errorf("%s: Left %d, Err %v, End %v", name, r.Left(), r.Err(), r.End())
		}
		if n := r.Number(); n != 0 {
			t.Errorf("%s: Number %d", name, n)
		}
		wantFailed(t, name, r, api.ErrShort)
		r = fresh()
		if s := r.Text(0); s != "" {
			t.Errorf("%s: Text %q", name, s)
		}
		wantFailed(t, name, r, api.ErrShort)
	}
}
