package window

import (
	"errors"
	"math"
	"math/rand"
	"reflect"
	"runtime"
	"slices"
	"strconv"
	"testing"
	"weak"

	"isobar/api"
	"isobar/fault"
)

// far are numbers that no packet has, and that can't be acknowledged.
var far = []int{
	-1, -2, -4, -64, -256, math.MinInt32, math.MinInt + 1, math.MinInt,
	1 << 16, math.MaxInt32, 1 << 32, 1<<32 + 1, 1 << 60, math.MaxInt - 1, math.MaxInt,
}

// name returns element n of the tests: "a" is the first one.
func name(n int) string {
	if n <= 26 {
		return string(rune('a' + n - 1))
	}
	return "element " + strconv.Itoa(n)
}

// names returns the elements from one number to another one.
func names(from, to int) []string {
	var out []string
	for n := from; n <= to; n++ {
		out = append(out, name(n))
	}
	return out
}

// packets returns the packets with the elements from one number to another one.
func packets(from, to int) []Packet[string] {
	var out []Packet[string]
	for n := from; n <= to; n++ {
		out = append(out, Packet[string]{Seq: n, Data: name(n)})
	}
	return out
}

// pushed returns a Sender with n elements, none of which was sent.
func pushed(t *testing.T, n int) *Sender[string] {
	t.Helper()
	s := &Sender[string]{}
	push(s, n)
	want(t, s, n, 0, 0)
	return s
}

// push pushes the next n elements.
func push(s *Sender[string], n int) {
	had, _, _ := s.Counts()
	for _, x := range names(had+1, had+n) {
		s.Push(x)
	}
}

// send sends, and checks that the packets are those from one number to another one; none
// if to is less than from.
func send(t *testing.T, s *Sender[string], from, to int) {
	t.Helper()
	if got := s.Send(); !slices.Equal(got, packets(from, to)) {
		t.Fatalf("Send = %v, want %v", got, packets(from, to))
	}
}

// resend is send for Resend.
func resend(t *testing.T, s *Sender[string], from, to int) {
	t.Helper()
	if got := s.Resend(); !slices.Equal(got, packets(from, to)) {
		t.Fatalf("Resend = %v, want %v", got, packets(from, to))
	}
}

// ack acknowledges n elements of which at least as many are sent.
func ack(t *testing.T, s *Sender[string], n int) {
	t.Helper()
	if err := s.Ack(n); err != nil {
		t.Fatalf("Ack(%d) = %v", n, err)
	}
}

// noAck checks that n can't be acknowledged, and that the Sender stays as it is.
func noAck(t *testing.T, s *Sender[string], n int) {
	t.Helper()
	a, b, c := s.Counts()
	flight := s.Resend()
	wantFault(t, s.Ack(n), n)
	want(t, s, a, b, c)
	if got := s.Resend(); !slices.Equal(got, flight) {
		t.Fatalf("Ack(%d) changed what is resent from %v to %v", n, flight, got)
	}
}

// want checks the counts of a Sender.
func want(t *testing.T, s *Sender[string], pushed, sent, acked int) {
	t.Helper()
	if a, b, c := s.Counts(); a != pushed || b != sent || c != acked {
		t.Fatalf("Counts = %d, %d, %d, want %d, %d, %d", a, b, c, pushed, sent, acked)
	}
}

// wantFault checks that err is the fault window, n, directly around ErrRange.
func wantFault(t *testing.T, err error, n int) {
	t.Helper()
	f, ok := err.(*fault.Fault)
	if !ok || f == nil || f.Op != "window" || f.At != n || f.Err != error(api.ErrRange) {
		t.Fatalf("got %#v, want the fault window, %d, around ErrRange", err, n)
	}
	if fault.Code(err) != api.ErrRange || !errors.Is(err, api.ErrRange) {
		t.Fatalf("%v doesn't have the code ErrRange", err)
	}
}

// take lets a Receiver take a packet, and checks how many it has accepted then, which are
// the first ones.
func take(t *testing.T, r *Receiver[string], p Packet[string], accepted int) {
	t.Helper()
	if got := r.Take(p); got != accepted {
		t.Fatalf("Take(%v) = %d, want %d", p, got, accepted)
	}
	wantList(t, r, names(1, accepted))
}

// wantList checks what a Receiver has accepted.
func wantList(t *testing.T, r *Receiver[string], list []string) {
	t.Helper()
	if got := r.List(); !slices.Equal(got, list) {
		t.Fatalf("List = %q, want %q", got, list)
	}
}

// accepted returns a Receiver that has accepted n elements.
func accepted(t *testing.T, n int) *Receiver[string] {
	t.Helper()
	r := &Receiver[string]{}
	for i, p := range packets(1, n) {
		take(t, r, p, i+1)
	}
	return r
}

// The chapter's example.
func TestExample(t *testing.T) {
	s := pushed(t, 5)
	send(t, s, 1, 4)
	ack(t, s, 2)
	send(t, s, 5, 5)
	want(t, s, 5, 5, 2)
}

// The texts of the errors, written out.
func TestTexts(t *testing.T) {
	s := pushed(t, 5)
	send(t, s, 1, 4)
	cases := []struct {
		err  error
		want string
	}{
		{s.Ack(5), "window 5: range"},
		{s.Ack(-1), "window -1: range"},
		{s.Ack(math.MaxInt), "window 9223372036854775807: range"},
		{s.Ack(math.MinInt), "window -9223372036854775808: range"},
		{(*Sender[int])(nil).Ack(0), "window 0: range"},
	}
	for _, c := range cases {
		if c.err == nil || c.err.Error() != c.want {
			t.Errorf("got %v, want %q", c.err, c.want)
		}
	}
}

// P9.1: a zero Sender has no elements, and can be used.
func TestZeroSender(t *testing.T) {
	for _, s := range []*Sender[string]{{}, new(Sender[string])} {
		for range 3 {
			want(t, s, 0, 0, 0)
			send(t, s, 1, 0)
			resend(t, s, 1, 0)
		}
		ack(t, s, 0)
		noAck(t, s, 1)
		for _, n := range far {
			noAck(t, s, n)
		}
		push(s, 1)
		want(t, s, 1, 0, 0)
		send(t, s, 1, 1)
		want(t, s, 1, 1, 0)
	}
}

// P9.1: the first Send and Resend with fewer elements than the window has room for, with
// just as many, and with more.
func TestSend(t *testing.T) {
	for n := range 12 {
		s := pushed(t, n)
		resend(t, s, 1, 0)
		want(t, s, n, 0, 0)
		sent := min(n, 4)
		send(t, s, 1, sent)
		want(t, s, n, sent, 0)
		for range 3 {
			send(t, s, 1, 0)
			resend(t, s, 1, sent)
			want(t, s, n, sent, 0)
		}
	}
	s := pushed(t, 300)
	if got := s.Send(); len(got) != api.Window {
		t.Errorf("Send returns %d packets", len(got))
	}
}

// P9.1: what is pushed later is sent as long as the window has room, and keeps its place
// behind what was pushed earlier.
func TestSendLater(t *testing.T) {
	s := pushed(t, 1)
	send(t, s, 1, 1)
	push(s, 2)
	resend(t, s, 1, 1)
	send(t, s, 2, 3)
	resend(t, s, 1, 3)
	push(s, 2)
	want(t, s, 5, 3, 0)
	send(t, s, 4, 4)
	send(t, s, 5, 4)
	push(s, 1)
	resend(t, s, 1, 4)
	ack(t, s, 4)
	resend(t, s, 5, 4)
	send(t, s, 5, 6)
	want(t, s, 6, 6, 4)
}

// P9.1: Send and Resend behind an Ack of none, of some and of all, with few and many
// elements left.
func TestSendAcked(t *testing.T) {
	for n := range 12 {
		sent := min(n, 4)
		for acked := range sent + 1 {
			s := pushed(t, n)
			send(t, s, 1, sent)
			ack(t, s, acked)
			want(t, s, n, sent, acked)
			resend(t, s, acked+1, sent)
			then := min(n, acked+4)
			send(t, s, sent+1, then)
			want(t, s, n, then, acked)
			send(t, s, 1, 0)
			resend(t, s, acked+1, then)
			ack(t, s, then)
			resend(t, s, 1, 0)
			send(t, s, then+1, min(n, then+4))
		}
	}
}

// P9.1: Resend doesn't count anything as sent, however many elements there are.
func TestResend(t *testing.T) {
	s := pushed(t, 9)
	for range 5 {
		resend(t, s, 1, 0)
	}
	want(t, s, 9, 0, 0)
	noAck(t, s, 1)
	send(t, s, 1, 4)
	ack(t, s, 3)
	for range 5 {
		resend(t, s, 4, 4)
	}
	want(t, s, 9, 4, 3)
	send(t, s, 5, 7)
	resend(t, s, 4, 7)
}

// P9.2: every number that can be acknowledged or not, in states of all kinds.
func TestAck(t *testing.T) {
	for n := range 7 {
		sent := min(n, 4)
		for acked := range sent + 1 {
			for to := -5; to < 12; to++ {
				s := pushed(t, n)
				send(t, s, 1, sent)
				ack(t, s, acked)
				if to < 0 || to > sent {
					noAck(t, s, to)
					want(t, s, n, sent, acked)
					continue
				}
				ack(t, s, to)
				want(t, s, n, sent, max(acked, to))
				resend(t, s, max(acked, to)+1, sent)
			}
		}
	}
}

// P9.2: the counts behind each of a number of acknowledgements.
func TestAckCounts(t *testing.T) {
	s := pushed(t, 9)
	noAck(t, s, 1) // pushed, but not sent
	send(t, s, 1, 4)
	steps := []struct{ n, acked int }{
		{0, 0}, {2, 2}, {2, 2}, {1, 2}, {0, 2}, {3, 3}, {2, 3}, {4, 4}, {4, 4}, {0, 4}, {3, 4},
	}
	for _, c := range steps {
		ack(t, s, c.n)
		want(t, s, 9, 4, c.acked)
		noAck(t, s, 5)
	}
	send(t, s, 5, 8)
	ack(t, s, 1)
	want(t, s, 9, 8, 4)
	resend(t, s, 5, 8)
	ack(t, s, 8)
	noAck(t, s, 9)
	send(t, s, 9, 9)
	ack(t, s, 9)
	noAck(t, s, 10)
	want(t, s, 9, 9, 9)
}

// P9.2: the least and the greatest numbers, and others beyond what was sent.
func TestAckFar(t *testing.T) {
	for n := range 7 {
		s := pushed(t, n)
		for range 3 {
			for _, to := range far {
				noAck(t, s, to)
			}
			s.Send()
			_, sent, _ := s.Counts()
			noAck(t, s, sent+1)
			ack(t, s, sent)
		}
	}
}

// P9.3: a zero Receiver has accepted nothing, and can be used.
func TestZeroReceiver(t *testing.T) {
	for _, r := range []*Receiver[string]{{}, new(Receiver[string])} {
		wantList(t, r, nil)
		take(t, r, Packet[string]{}, 0)
		take(t, r, Packet[string]{Data: "a"}, 0)
		take(t, r, Packet[string]{Seq: 2, Data: "b"}, 0)
		take(t, r, Packet[string]{Seq: 1, Data: "a"}, 1)
	}
}

// P9.3: the next packet, all earlier ones, some later ones, and numbers that no packet
// has, for Receivers that have accepted few elements or many.
func TestTake(t *testing.T) {
	for n := range 20 {
		r := accepted(t, n)
		for _, seq := range far {
			take(t, r, Packet[string]{Seq: seq, Data: "x"}, n)
		}
		for seq := -20; seq <= n; seq++ {
			take(t, r, Packet[string]{Seq: seq, Data: "x"}, n)
		}
		for seq := n + 2; seq < n+20; seq++ {
			take(t, r, Packet[string]{Seq: seq, Data: "x"}, n)
		}
		next := Packet[string]{Seq: n + 1, Data: name(n + 1)}
		take(t, r, next, n+1)
		take(t, r, next, n+1)
		take(t, r, Packet[string]{Seq: n + 1, Data: "x"}, n+1)
	}
}

// P9.3: a packet that came too early isn't kept: it has to come again.
func TestTakeEarly(t *testing.T) {
	r, p := &Receiver[string]{}, packets(1, 3)
	take(t, r, p[2], 0)
	take(t, r, p[1], 0)
	take(t, r, p[0], 1)
	take(t, r, p[2], 1)
	take(t, r, p[1], 2)
	take(t, r, p[2], 3)
}

// P9.3: what is accepted is the Data of the packet, whatever it is: a zero value too, and
// the same one again.
func TestTakeData(t *testing.T) {
	r := &Receiver[string]{}
	list := []string{"", "x", "x", "", "", "\x00", "x"}
	for i, x := range list {
		r.Take(Packet[string]{Seq: i + 1, Data: x})
		wantList(t, r, list[:i+1])
	}
}

// P9.5: nil Senders and Receivers.
func TestNil(t *testing.T) {
	var s *Sender[string]
	var r *Receiver[string]
	for range 2 {
		s.Push("a")
		want(t, s, 0, 0, 0)
		send(t, s, 1, 0)
		resend(t, s, 1, 0)
		for _, n := range append([]int{0, 1, 2, 4, 5}, far...) {
			wantFault(t, s.Ack(n), n)
			take(t, r, Packet[string]{Seq: n, Data: "a"}, 0)
		}
		wantList(t, r, nil)
	}
}

// carry checks that elements of a type come through, though their packets arrive in
// descending order, and more than once.
func carry[T any](t *testing.T, elements ...T) {
	t.Helper()
	var s Sender[T]
	var r Receiver[T]
	for _, x := range elements {
		s.Push(x)
	}
	for range elements {
		l := append(s.Send(), s.Resend()...)
		slices.Reverse(l)
		for _, p := range l {
			r.Take(p)
		}
		if err := s.Ack(len(r.List())); err != nil {
			t.Fatal(err)
		}
	}
	if got := r.List(); !reflect.DeepEqual(got, elements) {
		t.Fatalf("%T: List = %v, want %v", elements, got, elements)
	}
	if a, b, c := s.Counts(); a != len(elements) || b != a || c != a {
		t.Fatalf("%T: Counts = %d, %d, %d", elements, a, b, c)
	}
}

// P9.1, P9.3: elements of several types.
func TestTypes(t *testing.T) {
	one, two := 1, 2
	carry(t, 0, 0, -1, math.MinInt, math.MaxInt, 0)
	carry(t, "", "a", "", "b", "b", "c")
	carry(t, true, false, false, true, true, true, false)
	carry(t, struct{}{}, struct{}{}, struct{}{}, struct{}{}, struct{}{}, struct{}{})
	carry(t, api.Record{}, api.Record{Seq: 2, Kind: api.Mark, Number: 7}, api.Record{Data: "x"})
	carry(t, [3]int{1, 2, 3}, [3]int{}, [3]int{4})
	carry(t, &one, nil, &two, &one, nil, &two)
	carry(t, []byte("a"), nil, []byte{}, []byte("bc"), []byte("d"), []byte("e"))
	carry[any](t, nil, 1, "a", nil, 2.5, []int{1})
	carry[error](t, nil, api.ErrSum, nil, api.ErrFull, nil)
	carry(t, map[int]string{1: "a"}, nil, map[int]string{})
	carry(t, Packet[int]{Seq: 9, Data: 8}, Packet[int]{}, Packet[int]{Seq: 1})
	carry(t, math.Inf(1), 0, 1.5)
}

// R3: what is returned is memory of its own: changing it changes neither a Sender nor a
// Receiver, nor what was or will be returned, nor do they change it.
func TestResultsStay(t *testing.T) {
	s := pushed(t, 9)
	spoil := func(l []Packet[string]) {
		for i := range l[:cap(l)] {
			l[:cap(l)][i] = Packet[string]{Seq: -7, Data: "spoilt"}
		}
	}
	first, again := s.Send(), s.Resend()
	spoil(first)
	if !slices.Equal(again, packets(1, 4)) {
		t.Fatalf("what Resend returned became %v", again)
	}
	spoil(again)
	kept := s.Resend()
	resend(t, s, 1, 4)
	ack(t, s, 3)
	spoil(s.Send())
	resend(t, s, 4, 7)
	if !slices.Equal(kept, packets(1, 4)) {
		t.Fatalf("what Resend returned became %v", kept)
	}

	r := accepted(t, 3)
	list, other := r.List(), r.List()
	for i := range list[:cap(list)] {
		list[:cap(list)][i] = "spoilt"
	}
	_ = append(other, "spoilt", "spoilt")
	wantList(t, r, names(1, 3))
	take(t, r, packets(4, 4)[0], 4)
	if !slices.Equal(other, names(1, 3)) || list[0] != "spoilt" {
		t.Fatalf("the lists became %q and %q", list, other)
	}
}

// R6: Senders and Receivers don't share anything with others.
func TestApart(t *testing.T) {
	a, b := pushed(t, 5), pushed(t, 2)
	send(t, a, 1, 4)
	want(t, b, 2, 0, 0)
	noAck(t, b, 1)
	send(t, b, 1, 2)
	ack(t, a, 3)
	want(t, b, 2, 2, 0)
	resend(t, b, 1, 2)
	r, o := accepted(t, 2), accepted(t, 1)
	take(t, r, packets(3, 3)[0], 3)
	wantList(t, o, names(1, 1))
}

// An element that is acknowledged is kept no longer, though others are.
func TestAckedGone(t *testing.T) {
	s := &Sender[*[64]int]{}
	first, second := new([64]int), new([64]int)
	gone, stays := weak.Make(first), weak.Make(second)
	s.Push(first)
	s.Push(second)
	s.Send()
	if err := s.Ack(1); err != nil {
		t.Fatal(err)
	}
	first, second = nil, nil
	runtime.GC()
	if gone.Value() != nil || stays.Value() == nil {
		t.Errorf("kept: the acknowledged one %t, the other one %t", gone.Value() != nil, stays.Value() != nil)
	}
	runtime.KeepAlive(s)
}

// A Sender that was used for long, with little to be sent at any time, is small.
func TestSmall(t *testing.T) {
	s := &Sender[int]{}
	for n := range 1 << 17 {
		s.Push(n)
		s.Push(n)
		s.Send()
		if err := s.Ack(2*n + 1); err != nil {
			t.Fatal(err)
		}
	}
	if cap(s.kept) > 100 {
		t.Errorf("there is room for %d elements", cap(s.kept))
	}
}

// P9.4: many elements come through in time, all of them pushed ahead of the first Send.
func TestMany(t *testing.T) {
	const many = 1 << 19
	s, r := &Sender[int]{}, &Receiver[int]{}
	for n := range many {
		s.Push(n)
	}
	taken := 0
	for range many / api.Window {
		for _, p := range s.Send() {
			taken = r.Take(p)
		}
		if err := s.Ack(taken); err != nil {
			t.Fatal(err)
		}
	}
	if taken != many {
		t.Fatalf("%d of %d elements are accepted", taken, many)
	}
	for i, n := range r.List() {
		if i != n {
			t.Fatalf("element %d is %d", i, n)
		}
	}
}

// model is a Sender and a Receiver as the chapter words them: all elements that there
// ever were, and counts.
type model struct {
	elements    []string
	sent, acked int
	accepted    []string
}

func (m *model) send() []Packet[string] {
	var out []Packet[string]
	for m.sent < len(m.elements) && m.sent-m.acked < 4 {
		m.sent++
		out = append(out, Packet[string]{m.sent, m.elements[m.sent-1]})
	}
	return out
}

func (m *model) resend() []Packet[string] {
	var out []Packet[string]
	for i, x := range m.elements {
		if m.acked <= i && i < m.sent {
			out = append(out, Packet[string]{i + 1, x})
		}
	}
	return out
}

func (m *model) ack(n int) bool {
	if n < 0 || n > m.sent {
		return false
	}
	m.acked = max(m.acked, n)
	return true
}

func (m *model) take(p Packet[string]) int {
	if p.Seq == len(m.accepted)+1 {
		m.accepted = append(m.accepted, p.Data)
	}
	return len(m.accepted)
}

// step is a call on a Sender or Receiver, or a packet's way from one to the other: n is
// the number to be acknowledged, or counts packets in transit from the latest one.
type step struct {
	kind string
	n    int
}

// run is a Sender and a Receiver, their models, and all that ever was in transit.
type run struct {
	s       Sender[string]
	r       Receiver[string]
	m       model
	transit []Packet[string]
	taken   []int
}

// do performs a step on the Sender, the Receiver and the model, and compares them.
func (r *run) do(t *testing.T, s step) {
	t.Helper()
	switch s.kind {
	case "push":
		x := name(len(r.m.elements) + 1)
		r.m.elements = append(r.m.elements, x)
		r.s.Push(x)
	case "send":
		r.onTheWay(t, r.s.Send(), r.m.send())
	case "resend":
		r.onTheWay(t, r.s.Resend(), r.m.resend())
	case "ack":
		r.ack(t, s.n)
	case "arrive":
		if s.n < len(r.transit) {
			r.take(t, r.transit[len(r.transit)-1-s.n])
		}
	case "answer":
		if s.n < len(r.taken) {
			r.ack(t, r.taken[len(r.taken)-1-s.n])
		}
	default:
		t.Fatalf("no step: %v", s)
	}
	r.check(t)
}

// onTheWay notes packets as in transit, where they stay: they may arrive again, or never.
func (r *run) onTheWay(t *testing.T, got, want []Packet[string]) {
	t.Helper()
	if !slices.Equal(got, want) {
		t.Fatalf("the packets %v, want %v", got, want)
	}
	r.transit = append(r.transit, got...)
}

// ack acknowledges n.
func (r *run) ack(t *testing.T, n int) {
	t.Helper()
	err := r.s.Ack(n)
	if !r.m.ack(n) {
		wantFault(t, err, n)
	} else if err != nil {
		t.Fatalf("Ack(%d) = %v", n, err)
	}
}

// take lets the Receiver take a packet, and notes its answer as in transit.
func (r *run) take(t *testing.T, p Packet[string]) {
	t.Helper()
	got, want := r.r.Take(p), r.m.take(p)
	if got != want {
		t.Fatalf("Take(%v) = %d, want %d", p, got, want)
	}
	r.taken = append(r.taken, got)
}

// check compares all that can be asked with the model, and checks that what was accepted
// is a prefix of what was pushed.
func (r *run) check(t *testing.T) {
	t.Helper()
	want(t, &r.s, len(r.m.elements), r.m.sent, r.m.acked)
	list := r.r.List()
	if !slices.Equal(list, r.m.accepted) {
		t.Fatalf("List = %q, want %q", list, r.m.accepted)
	}
	if len(list) > len(r.m.elements) || !slices.Equal(list, r.m.elements[:len(list)]) {
		t.Fatalf("%q is accepted, and %q was pushed", list, r.m.elements)
	}
	if got := r.s.Resend(); !slices.Equal(got, r.m.resend()) {
		t.Fatalf("Resend = %v, want %v", got, r.m.resend())
	}
}

// play performs steps on a new Sender and a new Receiver.
func play(t *testing.T, steps []step) *run {
	t.Helper()
	defer func() {
		if t.Failed() {
			t.Logf("the history is %v", steps)
		}
	}()
	r := &run{}
	for _, s := range steps {
		r.do(t, s)
	}
	return r
}

// playAll performs all histories of n of these steps behind those of start.
func playAll(t *testing.T, start, steps []step, n int) {
	t.Helper()
	if n == 0 {
		play(t, start)
		return
	}
	for _, s := range steps {
		playAll(t, append(slices.Clone(start), s), steps, n-1)
	}
}

// P9.1 to P9.3: all short histories, of a new Sender and of such as have sent some.
func TestAllHistories(t *testing.T) {
	push, send := step{"push", 0}, step{"send", 0}
	steps := []step{
		push, send, {"resend", 0}, {"ack", -1}, {"ack", 0}, {"ack", 1}, {"ack", 2}, {"ack", 5},
		{"arrive", 0}, {"arrive", 1},
	}
	playAll(t, nil, steps, 4)
	playAll(t, slices.Repeat([]step{push}, 3), steps, 4)
	playAll(t, append(slices.Repeat([]step{push}, 6), send, step{"ack", 1}), steps, 4)
}

// P9.4: all ways in which the packets of five elements can arrive, be doubled and be
// lost, and be acknowledged; at any time, all that is acknowledged is accepted.
func TestAllArrivals(t *testing.T) {
	steps := []step{
		{"send", 0}, {"arrive", 0}, {"arrive", 1}, {"arrive", 2}, {"arrive", 3}, {"answer", 0}, {"answer", 1},
	}
	start := append(slices.Repeat([]step{{"push", 0}}, 5), step{"send", 0})
	var all func(history []step, n int)
	all = func(history []step, n int) {
		r := play(t, history)
		if _, _, acked := r.s.Counts(); acked > len(r.r.List()) {
			t.Fatalf("%v: %d are acknowledged, %d accepted", history, acked, len(r.r.List()))
		}
		for _, s := range steps[:min(n, 1)*len(steps)] {
			all(append(slices.Clone(history), s), n-1)
		}
	}
	all(start, 5)
}

// P9.4: long histories with packets and acknowledgements that are lost, doubled, late and
// out of order. Then all that Send and Resend return arrives, in some order, and is
// acknowledged, as many times as there are elements: all of them are accepted then.
func TestLongHistories(t *testing.T) {
	random := rand.New(rand.NewSource(9))
	for range 200 {
		r := &run{}
		for range 150 {
			switch random.Intn(9) {
			case 0, 1:
				r.do(t, step{"push", 0})
			case 2:
				r.do(t, step{"send", 0})
			case 3:
				r.do(t, step{"resend", 0})
			case 4, 5:
				r.do(t, step{"answer", random.Intn(12)})
			default:
				r.do(t, step{"arrive", random.Intn(12)})
			}
			if r.m.acked > len(r.m.accepted) {
				t.Fatalf("%d are acknowledged, %d accepted", r.m.acked, len(r.m.accepted))
			}
		}
		finish(t, r, func(l []Packet[string]) {
			random.Shuffle(len(l), func(i, j int) { l[i], l[j] = l[j], l[i] })
		})
	}
}

// finish lets all that Send and Resend return arrive, in the order in which it is put,
// and be acknowledged, as many times as there are elements, and checks that all are
// accepted then, and acknowledged.
func finish(t *testing.T, r *run, order func([]Packet[string])) {
	t.Helper()
	n := len(r.m.elements)
	for range n {
		late := len(r.transit)
		r.do(t, step{"send", 0})
		r.do(t, step{"resend", 0})
		order(r.transit[late:])
		for _, p := range r.transit[late:] {
			r.take(t, p)
			r.check(t)
			r.ack(t, r.taken[len(r.taken)-1])
		}
	}
	wantList(t, &r.r, r.m.elements)
	want(t, &r.s, n, n, n)
}

// P9.4: all elements are accepted, in all orders of arrival that stay the same from time
// to time, and with all packets but a few lost ahead of that.
func TestFinish(t *testing.T) {
	backward := func(l []Packet[string]) { slices.Reverse(l) }
	forward := func([]Packet[string]) {}
	for n := range 30 {
		for lost := range 4 {
			for _, order := range []func([]Packet[string]){forward, backward} {
				r := play(t, slices.Repeat([]step{{"push", 0}}, n))
				for range lost {
					r.do(t, step{"send", 0})
					r.do(t, step{"resend", 0})
					r.do(t, step{"arrive", 3})
				}
				finish(t, r, order)
			}
		}
	}
}
