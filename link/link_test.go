package link

import (
	"errors"
	"math"
	"math/rand"
	"reflect"
	"runtime"
	"slices"
	"strings"
	"testing"
	"weak"

	"isobar/api"
	"isobar/fault"
)

// far are numbers that no message has as its index.
var far = []int{
	-1, -2, -4, -64, -4096, math.MinInt32, math.MinInt + 1, math.MinInt,
	4096, 4097, 1 << 16, math.MaxInt32, 1 << 32, 1<<32 + 1, 1 << 60, math.MaxInt - 1, math.MaxInt,
}

// list returns a text as messages of a letter each.
func list(s string) []string {
	if s == "" {
		return nil
	}
	return strings.Split(s, "")
}

// sent returns a link with a capacity, to which each letter of s was sent.
func sent(t *testing.T, room int, s string) *Link[string] {
	t.Helper()
	l := New[string](room)
	for i, x := range list(s) {
		send(t, l, x, i+1)
	}
	return l
}

// send sends a message, and checks how many are in transit then.
func send(t *testing.T, l *Link[string], x string, n int) {
	t.Helper()
	if err := l.Send(x); err != nil {
		t.Fatalf("Send(%q) = %v", x, err)
	}
	wantLen(t, l, n)
}

// noSend checks that nothing can be sent as the n messages in transit leave no room.
func noSend(t *testing.T, l *Link[string], n int) {
	t.Helper()
	wantFault(t, l.Send("x"), n, api.ErrFull)
	wantLen(t, l, n)
}

// deliver delivers message i, and checks that it is x, and how many are in transit then.
func deliver(t *testing.T, l *Link[string], i int, x string, n int) {
	t.Helper()
	if got, err := l.Deliver(i); got != x || err != nil {
		t.Fatalf("Deliver(%d) = %q, %v, want %q", i, got, err, x)
	}
	wantLen(t, l, n)
}

// noDeliver checks that Deliver returns nothing but a fault with the place i.
func noDeliver(t *testing.T, l *Link[string], i int, e api.Errno) {
	t.Helper()
	n := l.Len()
	got, err := l.Deliver(i)
	wantFault(t, err, i, e)
	if got != "" {
		t.Fatalf("Deliver(%d) returns %q beside %v", i, got, err)
	}
	wantLen(t, l, n)
}

// double doubles message i, and checks how many are in transit then.
func double(t *testing.T, l *Link[string], i, n int) {
	t.Helper()
	if err := l.Double(i); err != nil {
		t.Fatalf("Double(%d) = %v", i, err)
	}
	wantLen(t, l, n)
}

// noDouble checks that Double returns a fault with the place i.
func noDouble(t *testing.T, l *Link[string], i int, e api.Errno) {
	t.Helper()
	n := l.Len()
	wantFault(t, l.Double(i), i, e)
	wantLen(t, l, n)
}

// drop drops message i, and checks how many are in transit then.
func drop(t *testing.T, l *Link[string], i, n int) {
	t.Helper()
	if err := l.Drop(i); err != nil {
		t.Fatalf("Drop(%d) = %v", i, err)
	}
	wantLen(t, l, n)
}

// noDrop checks that Drop returns a fault with the place i.
func noDrop(t *testing.T, l *Link[string], i int) {
	t.Helper()
	n := l.Len()
	wantFault(t, l.Drop(i), i, api.ErrRange)
	wantLen(t, l, n)
}

// wantLen checks how many messages are in transit.
func wantLen(t *testing.T, l *Link[string], n int) {
	t.Helper()
	if got := l.Len(); got != n {
		t.Fatalf("Len = %d, want %d", got, n)
	}
}

// wantRest delivers all that is in transit, and checks that it is a letter each of s, in
// this order, and that nothing is left then.
func wantRest(t *testing.T, l *Link[string], s string) {
	t.Helper()
	wantLen(t, l, len(s))
	for i, x := range list(s) {
		deliver(t, l, 0, x, len(s)-i-1)
	}
	noDeliver(t, l, 0, api.ErrRange)
}

// wantFault checks that err is the fault link, n, directly around e.
func wantFault(t *testing.T, err error, n int, e api.Errno) {
	t.Helper()
	f, ok := err.(*fault.Fault)
	if !ok || f == nil || f.Op != "link" || f.At != n || f.Err != error(e) {
		t.Fatalf("got %#v, want the fault link, %d, around %v", err, n, e)
	}
	if fault.Code(err) != e || !errors.Is(err, e) {
		t.Fatalf("%v doesn't have the code %v", err, e)
	}
}

// without returns s without letter i.
func without(s string, i int) string {
	return s[:i] + s[i+1:]
}

// The chapter's example.
func TestExample(t *testing.T) {
	l := sent(t, 3, "ab")
	double(t, l, 0, 3)
	deliver(t, l, 1, "b", 2)
	deliver(t, l, 1, "a", 1)
	deliver(t, l, 0, "a", 0)
}

// The texts of the errors, written out.
func TestTexts(t *testing.T) {
	full, part, cut := sent(t, 2, "ab"), sent(t, 3, "ab"), sent(t, 1, "a")
	cut.Cut(true)
	deliverErr := func(l *Link[string], i int) error {
		_, err := l.Deliver(i)
		return err
	}
	cases := []struct {
		err  error
		want string
	}{
		{full.Send("c"), "link 2: full"},
		{full.Double(1), "link 1: full"},
		{full.Double(2), "link 2: range"},
		{part.Double(-1), "link -1: range"},
		{part.Drop(2), "link 2: range"},
		{deliverErr(part, 2), "link 2: range"},
		{deliverErr(part, math.MinInt), "link -9223372036854775808: range"},
		{deliverErr(cut, 0), "link 0: down"},
		{deliverErr(cut, math.MaxInt), "link 9223372036854775807: down"},
		{New[int](-3).Send(1), "link 0: full"},
		{new(Link[int]).Send(1), "link 0: full"},
		{(*Link[int])(nil).Send(1), "link 0: down"},
		{(*Link[int])(nil).Drop(7), "link 0: down"},
		{deliverErr(nil, 7), "link 0: down"},
	}
	for _, c := range cases {
		if c.err == nil || c.err.Error() != c.want {
			t.Errorf("got %v, want %q", c.err, c.want)
		}
	}
}

// P10.1: a new link has no messages and isn't cut, and its capacity is clamped.
func TestNew(t *testing.T) {
	cases := []struct{ room, capacity int }{
		{-1, 0}, {-2, 0}, {-4096, 0}, {math.MinInt32, 0}, {math.MinInt + 1, 0}, {math.MinInt, 0},
		{0, 0}, {1, 1}, {2, 2}, {4, 4}, {63, 63}, {1000, 1000},
		{4095, 4095}, {4096, 4096}, {4097, 4096}, {8192, 4096}, {1 << 20, 4096},
		{math.MaxInt32, 4096}, {1 << 32, 4096}, {1<<32 + 1, 4096}, {math.MaxInt - 1, 4096}, {math.MaxInt, 4096},
	}
	for _, c := range cases {
		l := New[string](c.room)
		wantLen(t, l, 0)
		for _, i := range append([]int{0, 1}, far...) {
			noDeliver(t, l, i, api.ErrRange)
			noDouble(t, l, i, api.ErrRange)
			noDrop(t, l, i)
		}
		for n := range c.capacity {
			send(t, l, "a", n+1)
		}
		for range 3 {
			noSend(t, l, c.capacity)
		}
		wantRest(t, l, strings.Repeat("a", c.capacity))
	}
}

// P10.3: a zero Link has the capacity 0, and isn't cut.
func TestZero(t *testing.T) {
	for _, l := range []*Link[string]{{}, new(Link[string]), New[string](0)} {
		for range 3 {
			noSend(t, l, 0)
			for _, i := range append([]int{0, 1}, far...) {
				noDeliver(t, l, i, api.ErrRange)
				noDouble(t, l, i, api.ErrRange)
				noDrop(t, l, i)
			}
		}
		l.Cut(true)
		noSend(t, l, 0)
		noDeliver(t, l, 0, api.ErrDown)
		noDouble(t, l, 0, api.ErrRange)
		noDrop(t, l, 0)
		l.Cut(false)
		noDeliver(t, l, 0, api.ErrRange)
		noSend(t, l, 0)
	}
}

// P10.3: all errors of a nil Link are the fault link, 0, around ErrDown.
func TestNil(t *testing.T) {
	var l *Link[string]
	for _, cut := range []bool{false, true, true, false} {
		wantLen(t, l, 0)
		wantFault(t, l.Send("a"), 0, api.ErrDown)
		wantFault(t, l.Send(""), 0, api.ErrDown)
		for _, i := range append([]int{0, 1, 2}, far...) {
			x, err := l.Deliver(i)
			wantFault(t, err, 0, api.ErrDown)
			if x != "" {
				t.Fatalf("Deliver(%d) returns %q", i, x)
			}
			wantFault(t, l.Double(i), 0, api.ErrDown)
			wantFault(t, l.Drop(i), 0, api.ErrDown)
		}
		l.Cut(cut)
	}
	wantLen(t, l, 0)
}

// P10.1: Send until the capacity is reached, once more, and again when a message was
// delivered or dropped.
func TestSend(t *testing.T) {
	for room := 1; room < 8; room++ {
		letters := "abcdefg"[:room]
		for i := range room {
			l := sent(t, room, letters)
			noSend(t, l, room)
			noSend(t, l, room)
			deliver(t, l, i, letters[i:i+1], room-1)
			send(t, l, "y", room)
			noSend(t, l, room)
			rest := without(letters, i) + "y"
			drop(t, l, i, room-1)
			send(t, l, "z", room)
			noSend(t, l, room)
			wantRest(t, l, without(rest, i)+"z")
			send(t, l, "a", 1)
		}
	}
}

// P10.2: Deliver and Drop of each message, and all that are left keep their order.
func TestRemove(t *testing.T) {
	for n := 1; n < 10; n++ {
		letters := "abcdefghi"[:n]
		for i := range n {
			l := sent(t, n, letters)
			deliver(t, l, i, letters[i:i+1], n-1)
			wantRest(t, l, without(letters, i))
			l = sent(t, n, letters)
			drop(t, l, i, n-1)
			wantRest(t, l, without(letters, i))
		}
	}
}

// P10.2: all orders in which five messages can be delivered.
func TestOrders(t *testing.T) {
	var all func(order []int, left int)
	all = func(order []int, left int) {
		if left > 0 {
			for i := range left {
				all(append(slices.Clone(order), i), left-1)
			}
			return
		}
		letters := "abcde"
		l := sent(t, 5, letters)
		for _, i := range order {
			deliver(t, l, i, letters[i:i+1], len(letters)-1)
			letters = without(letters, i)
		}
		wantRest(t, l, "")
	}
	all(nil, 5)
}

// P10.2: indexes of no message: negative ones, Len, those beyond it, the least and the
// greatest numbers; they change nothing.
func TestRange(t *testing.T) {
	for n := range 6 {
		letters := "abcde"[:n]
		for _, room := range []int{n, n + 1, n + 100} {
			l := sent(t, room, letters)
			for _, i := range append([]int{n, n + 1, n + 2, room, room + 1, room + 2, -n - 1, -n - 2}, far...) {
				noDeliver(t, l, i, api.ErrRange)
				noDouble(t, l, i, api.ErrRange)
				noDrop(t, l, i)
			}
			wantRest(t, l, letters)
			for i := range 5 {
				noDeliver(t, l, i, api.ErrRange)
				noDouble(t, l, i, api.ErrRange)
				noDrop(t, l, i)
			}
		}
	}
}

// P10.2: a copy of each message is appended, and the message stays where it is.
func TestDouble(t *testing.T) {
	for n := 1; n < 8; n++ {
		letters := "abcdefg"[:n]
		for i := range n {
			for _, room := range []int{n + 1, n + 2, 100} {
				l := sent(t, room, letters)
				double(t, l, i, n+1)
				wantRest(t, l, letters+letters[i:i+1])
			}
		}
	}
}

// P10.2: a copy can be doubled, delivered and dropped as what it was made from.
func TestDoubleAgain(t *testing.T) {
	l := sent(t, 6, "ab")
	double(t, l, 0, 3)
	double(t, l, 2, 4)
	double(t, l, 1, 5)
	drop(t, l, 0, 4)
	deliver(t, l, 1, "a", 3)
	double(t, l, 2, 4)
	wantRest(t, l, "babb")
}

// P10.2: Double when the capacity is reached, with an index that is there, and with one
// that isn't.
func TestDoubleFull(t *testing.T) {
	for room := 1; room < 6; room++ {
		letters := "abcde"[:room]
		l := sent(t, room, letters)
		for i := range room {
			noDouble(t, l, i, api.ErrFull)
		}
		for _, i := range append([]int{room, room + 1}, far...) {
			noDouble(t, l, i, api.ErrRange)
		}
		drop(t, l, 0, room-1)
		if room > 1 {
			double(t, l, 0, room)
			noDouble(t, l, 0, api.ErrFull)
			wantRest(t, l, letters[1:]+letters[1:2])
		}
	}
	most := sent(t, 4097, strings.Repeat("a", 4095))
	double(t, most, 4094, 4096)
	noDouble(t, most, 4095, api.ErrFull)
	noDouble(t, most, 4096, api.ErrRange)
	noSend(t, most, 4096)
}

// P10.2: nothing but Deliver is affected by a cut, and only as long as the link is cut.
func TestCut(t *testing.T) {
	l := sent(t, 5, "abc")
	l.Cut(true)
	wantLen(t, l, 3)
	for _, i := range append([]int{0, 1, 2, 3, 4, 5}, far...) {
		noDeliver(t, l, i, api.ErrDown)
	}
	send(t, l, "d", 4)
	double(t, l, 1, 5)
	noSend(t, l, 5)
	noDouble(t, l, 0, api.ErrFull)
	noDouble(t, l, 5, api.ErrRange)
	drop(t, l, 0, 4)
	noDrop(t, l, 4)
	noDrop(t, l, -1)
	noDeliver(t, l, 0, api.ErrDown)
	l.Cut(false)
	noDeliver(t, l, 4, api.ErrRange)
	wantRest(t, l, "bcdb")
}

// P10.2: a cut of a cut link, or of one that isn't, leaves it as it is, and one call is
// enough to take it back.
func TestCutTwice(t *testing.T) {
	for times := range 4 {
		l := sent(t, 3, "abc")
		for range times {
			l.Cut(false)
		}
		deliver(t, l, 1, "b", 2)
		for range times + 1 {
			l.Cut(true)
			noDeliver(t, l, 0, api.ErrDown)
		}
		l.Cut(false)
		deliver(t, l, 1, "c", 1)
		l.Cut(true)
		noDeliver(t, l, 0, api.ErrDown)
		noDeliver(t, l, 1, api.ErrDown)
		for range times + 1 {
			l.Cut(false)
		}
		wantRest(t, l, "a")
	}
}

// P10.2: an empty link that is cut is down as well, and stays cut when it gets messages.
func TestCutEmpty(t *testing.T) {
	l := New[string](2)
	l.Cut(true)
	noDeliver(t, l, 0, api.ErrDown)
	send(t, l, "a", 1)
	noDeliver(t, l, 0, api.ErrDown)
	drop(t, l, 0, 0)
	noDeliver(t, l, 0, api.ErrDown)
	l.Cut(false)
	noDeliver(t, l, 0, api.ErrRange)
}

// P10.3: a message is delivered as often as it was sent and doubled, less what was
// dropped.
func TestHowOften(t *testing.T) {
	for doubled := range 4 {
		for dropped := range doubled + 2 {
			l := sent(t, 10, "abcb")
			for i := range doubled {
				double(t, l, 1, 5+i)
			}
			// The b sent last and the copies are behind the c.
			for i := range dropped {
				drop(t, l, 3, 3+doubled-i)
			}
			counts := map[string]int{}
			for l.Len() > 0 {
				x, err := l.Deliver(l.Len() - 1)
				if err != nil {
					t.Fatal(err)
				}
				counts[x]++
			}
			if len(counts) != 3 || counts["a"] != 1 || counts["b"] != 2+doubled-dropped || counts["c"] != 1 {
				t.Fatalf("b doubled %d times, dropped %d times: delivered %v", doubled, dropped, counts)
			}
			noDeliver(t, l, 0, api.ErrRange)
		}
	}
}

// carry checks that messages of a type come through, are doubled and are dropped, and
// that what is returned beside an error is the zero value of the type.
func carry[T any](t *testing.T, messages ...T) {
	t.Helper()
	l := New[T](len(messages) + 1)
	for _, x := range messages {
		if err := l.Send(x); err != nil {
			t.Fatal(err)
		}
	}
	last := len(messages) - 1
	if err := l.Double(last); err != nil {
		t.Fatal(err)
	}
	if err := l.Drop(last); err != nil {
		t.Fatal(err)
	}
	wantFault(t, func() error { _, err := l.Deliver(len(messages)); return err }(), len(messages), api.ErrRange)
	var got []T
	for i := last; i >= 0; i-- {
		noneOfCut(t, l, i)
		x, err := l.Deliver(i)
		if err != nil {
			t.Fatal(err)
		}
		got = append(got, x)
	}
	slices.Reverse(got)
	if !reflect.DeepEqual(got, messages) {
		t.Fatalf("%T: delivered %v, want %v", messages, got, messages)
	}
}

// noneOfCut cuts a link for a Deliver, which returns the zero value beside its error.
func noneOfCut[T any](t *testing.T, l *Link[T], i int) {
	t.Helper()
	var none T
	l.Cut(true)
	x, err := l.Deliver(i)
	wantFault(t, err, i, api.ErrDown)
	if !reflect.DeepEqual(x, none) {
		t.Fatalf("Deliver returns %v beside %v", x, err)
	}
	l.Cut(false)
}

// P10.1, P10.2: messages of several types.
func TestTypes(t *testing.T) {
	one, two := 1, 2
	carry(t, 1, 0, -1, math.MinInt, math.MaxInt, 7)
	carry(t, "", "a", "", "b", "b", "c")
	carry(t, true, false, false, true)
	carry(t, struct{}{}, struct{}{}, struct{}{})
	carry(t, api.Record{}, api.Record{Seq: 2, Kind: api.Mark, Number: 7}, api.Record{Data: "x"})
	carry(t, [3]int{1, 2, 3}, [3]int{}, [3]int{4})
	carry(t, &one, nil, &two, &one)
	carry(t, []byte("a"), nil, []byte{}, []byte("bc"))
	carry[any](t, nil, 1, "a", nil, 2.5, []int{1})
	carry[error](t, nil, api.ErrSum, nil, api.ErrFull)
	carry(t, map[int]string{1: "a"}, nil, map[int]string{})
	carry(t, math.Inf(1), 0, 1.5)
	carry(t, Link[int]{room: 3}, Link[int]{}, Link[int]{cut: true})
}

// R6: links don't share anything with others.
func TestApart(t *testing.T) {
	a, b, ints := sent(t, 3, "ab"), sent(t, 3, "cd"), New[int](3)
	deliver(t, a, 0, "a", 1)
	a.Cut(true)
	wantLen(t, b, 2)
	deliver(t, b, 1, "d", 1)
	send(t, a, "e", 2)
	if ints.Len() != 0 || ints.Send(7) != nil {
		t.Fatal("a new link isn't empty")
	}
	wantRest(t, b, "c")
	a.Cut(false)
	wantRest(t, a, "be")
}

// A message that was delivered or dropped is kept no longer, though others are.
func TestGone(t *testing.T) {
	l := New[*[64]int](4)
	var kept []weak.Pointer[[64]int]
	for range 4 {
		x := new([64]int)
		kept = append(kept, weak.Make(x))
		if err := l.Send(x); err != nil {
			t.Fatal(err)
		}
	}
	if _, err := l.Deliver(1); err != nil {
		t.Fatal(err)
	}
	if err := l.Drop(2); err != nil {
		t.Fatal(err)
	}
	runtime.GC()
	for i, w := range kept {
		if stays := i == 0 || i == 2; (w.Value() != nil) != stays {
			t.Errorf("message %d: kept %t, want %t", i, w.Value() != nil, stays)
		}
	}
	runtime.KeepAlive(l)
}

// A link has no memory for messages that it doesn't have.
func TestSmall(t *testing.T) {
	l := New[[1 << 20]byte](math.MaxInt)
	if cap(l.messages) != 0 {
		t.Errorf("a new link has memory for %d messages", cap(l.messages))
	}
	ints := New[int](4096)
	for n := range 1 << 17 {
		if err := ints.Send(n); err != nil {
			t.Fatal(err)
		}
		if x, err := ints.Deliver(0); x != n || err != nil {
			t.Fatalf("Deliver(0) = %d, %v, want %d", x, err, n)
		}
	}
	if cap(ints.messages) > 100 {
		t.Errorf("there is room for %d messages", cap(ints.messages))
	}
}

// model is a link as the chapter words it, with a letter for each message.
type model struct {
	letters string
	room    int
	cut     bool
}

// has reports whether there is a message i.
func (m *model) has(i int) bool {
	return 0 <= i && i < len(m.letters)
}

func (m *model) send(x string) api.Errno {
	if len(m.letters) == m.room {
		return api.ErrFull
	}
	m.letters += x
	return api.OK
}

func (m *model) deliver(i int) (string, api.Errno) {
	if m.cut {
		return "", api.ErrDown
	}
	if !m.has(i) {
		return "", api.ErrRange
	}
	x := m.letters[i : i+1]
	m.letters = without(m.letters, i)
	return x, api.OK
}

func (m *model) double(i int) api.Errno {
	if !m.has(i) {
		return api.ErrRange
	}
	return m.send(m.letters[i : i+1])
}

func (m *model) drop(i int) api.Errno {
	if !m.has(i) {
		return api.ErrRange
	}
	m.letters = without(m.letters, i)
	return api.OK
}

// step is a call on a link, with an index.
type step struct {
	kind string
	i    int
}

// run is a link and its model, and how often each letter was sent or doubled, and
// delivered.
type run struct {
	l               *Link[string]
	m               model
	next            byte
	came, delivered map[string]int
}

// start returns a link of a capacity that isn't negative, and its model.
func start(room int) *run {
	return &run{
		l: New[string](room), m: model{room: room}, next: 'a',
		came: map[string]int{}, delivered: map[string]int{},
	}
}

// do performs a step on the link and on the model, and compares them.
func (r *run) do(t *testing.T, s step) {
	t.Helper()
	switch s.kind {
	case "send":
		r.send(t)
	case "double":
		had := r.m.letters
		err, e := r.l.Double(s.i), r.m.double(s.i)
		same(t, err, e, s.i)
		if e == api.OK {
			r.came[had[s.i:s.i+1]]++
		}
	case "deliver":
		r.deliver(t, s.i)
	case "drop":
		same(t, r.l.Drop(s.i), r.m.drop(s.i), s.i)
	case "cut":
		r.m.cut = s.i > 0
		r.l.Cut(r.m.cut)
	default:
		t.Fatalf("no step: %v", s)
	}
	wantLen(t, r.l, len(r.m.letters))
}

// send sends a letter that was not sent before, as long as there is one.
func (r *run) send(t *testing.T) {
	t.Helper()
	x, n := string(rune(r.next)), len(r.m.letters)
	e := r.m.send(x)
	same(t, r.l.Send(x), e, n)
	if e == api.OK {
		r.came[x]++
		r.next = 'a' + (r.next-'a'+1)%26
	}
}

// deliver delivers message i, which has come more often than it was delivered.
func (r *run) deliver(t *testing.T, i int) {
	t.Helper()
	x, e := r.m.deliver(i)
	got, err := r.l.Deliver(i)
	same(t, err, e, i)
	if got != x {
		t.Fatalf("Deliver(%d) = %q, want %q", i, got, x)
	}
	if e != api.OK {
		return
	}
	r.delivered[got]++
	if r.delivered[got] > r.came[got] {
		t.Fatalf("%q is delivered %d times, and was sent and doubled %d times", got, r.delivered[got], r.came[got])
	}
}

// same checks that err is the fault link, n, around e, or no error for OK.
func same(t *testing.T, err error, e api.Errno, n int) {
	t.Helper()
	if e != api.OK {
		wantFault(t, err, n, e)
	} else if err != nil {
		t.Fatalf("got %v, want no error", err)
	}
}

// finish delivers all that is left, and compares it with the model.
func (r *run) finish(t *testing.T) {
	t.Helper()
	r.do(t, step{"cut", 0})
	for range len(r.m.letters) {
		r.do(t, step{"deliver", 0})
	}
	noDeliver(t, r.l, 0, api.ErrRange)
}

// play performs steps on a new link.
func play(t *testing.T, room int, steps []step) {
	t.Helper()
	defer func() {
		if t.Failed() {
			t.Logf("the history on a link with room for %d is %v", room, steps)
		}
	}()
	r := start(room)
	for _, s := range steps {
		r.do(t, s)
	}
	r.finish(t)
}

// playAll performs all histories of n of these steps.
func playAll(t *testing.T, room int, before, steps []step, n int) {
	t.Helper()
	if n == 0 {
		play(t, room, before)
		return
	}
	for _, s := range steps {
		playAll(t, room, append(slices.Clone(before), s), steps, n-1)
	}
}

// P10.1 to P10.3: all short histories, of links without room, with little, and with much.
func TestAllHistories(t *testing.T) {
	steps := []step{
		{"send", 0}, {"deliver", 0}, {"deliver", 1}, {"double", 0}, {"double", 1},
		{"drop", 0}, {"drop", 1}, {"cut", 1}, {"cut", 0},
	}
	send := step{"send", 0}
	for _, room := range []int{0, 1, 2, 3} {
		playAll(t, room, nil, steps, 4)
		playAll(t, room, []step{send, send}, steps, 4)
	}
	playAll(t, 9, []step{send, send, send}, append(steps, step{"deliver", 2}, step{"double", -1}), 4)
}

// P10.1 to P10.3: long histories on links of several capacities.
func TestLongHistories(t *testing.T) {
	random := rand.New(rand.NewSource(10))
	kinds := []string{"send", "send", "send", "double", "double", "deliver", "deliver", "drop", "cut", "cut"}
	for n := range 300 {
		r := start(n % 20)
		for range 300 {
			kind, i := kinds[random.Intn(len(kinds))], random.Intn(24)-2
			if kind == "cut" {
				// A link that is cut most of the time would deliver little.
				i = random.Intn(4) - 2
			}
			r.do(t, step{kind, i})
		}
		r.finish(t)
	}
}

// P10.2: many messages, taken from the front, from the middle and from the end.
func TestMany(t *testing.T) {
	l := New[int](4096)
	var left []int
	for n := range 4096 {
		left = append(left, n)
		if err := l.Send(n); err != nil {
			t.Fatal(err)
		}
	}
	for k := 0; len(left) > 0; k++ {
		i := []int{0, len(left) / 2, len(left) - 1}[k%3]
		if x, err := l.Deliver(i); x != left[i] || err != nil {
			t.Fatalf("Deliver(%d) = %d, %v, want %d", i, x, err, left[i])
		}
		left = slices.Delete(left, i, i+1)
		if l.Len() != len(left) {
			t.Fatalf("Len = %d, want %d", l.Len(), len(left))
		}
	}
}
