package fault

import (
	"errors"
	"fmt"
	"math"
	"slices"
	"strconv"
	"strings"
	"testing"

	"isobar/api"
)

// codes are all errors that api names, but OK.
var codes = []api.Errno{
	api.ErrArg, api.ErrShort, api.ErrTail, api.ErrSum, api.ErrRange, api.ErrFull,
	api.ErrBusy, api.ErrNone, api.ErrState, api.ErrStale, api.ErrDown, api.ErrGone,
}

// noCodes are numbers that api doesn't name.
var noCodes = []api.Errno{-1, 13, 99, math.MaxInt, math.MinInt}

// foreign is an error of another package that wraps an error.
type foreign struct{ inner error }

func (f foreign) Error() string { return "foreign: " + f.inner.Error() }
func (f foreign) Unwrap() error { return f.inner }

// loose is an error whose values can't be compared.
type loose []string

func (l loose) Error() string { return strings.Join(l, ",") }

// wild is an error all of whose methods panic.
type wild struct{}

func (wild) Error() string { panic("Error") }
func (wild) Unwrap() error { panic("Unwrap") }
func (wild) Is(error) bool { panic("Is") }
func (wild) As(any) bool   { panic("As") }

// liar is an error that takes itself for every other one.
type liar struct{}

func (liar) Error() string { return "liar" }
func (liar) Is(error) bool { return true }
func (liar) As(target any) bool {
	switch t := target.(type) {
	case *api.Errno:
		*t = api.ErrFull
	case **Fault:
		*t = &Fault{Op: "disk", At: 3, Err: api.ErrFull}
	}
	return true
}

// holder is an error with a fault in it, whose methods are promoted to it.
type holder struct{ *Fault }

// numbered is an error with a number in it.
type numbered struct{ api.Errno }

// oddErrors are errors that are neither a number nor a fault.
func oddErrors() []error {
	full := api.ErrFull
	return []error{
		errors.New("x"),
		errors.New(""),
		fmt.Errorf("x: %w", api.ErrFull),
		foreign{api.ErrFull},
		foreign{&Fault{"disk", 3, api.ErrFull}},
		errors.Join(api.ErrFull, &Fault{"disk", 3, api.ErrFull}),
		loose{"a", "b"},
		liar{},
		holder{&Fault{"disk", 3, api.ErrFull}},
		numbered{api.ErrFull},
		&full,
	}
}

// model is what the chapter says of an error, worked out beside the program.
type model struct {
	err   error
	ops   []string
	ats   []int
	inner string
	code  api.Errno
}

// leaves are errors to be wrapped, and what is to be said of them alone.
func leaves() []model {
	var none *Fault
	out := []model{{err: none, inner: "ok"}}
	for _, e := range codes {
		out = append(out, model{err: e, inner: e.Error(), code: e})
	}
	for _, e := range noCodes {
		out = append(out, model{err: e, inner: "?", code: e})
	}
	for _, err := range oddErrors() {
		out = append(out, model{err: err, inner: err.Error()})
	}
	return out
}

// emptyFaults are faults around nothing and around OK, which Wrap doesn't make.
func emptyFaults() []model {
	return []model{
		{err: &Fault{}, ops: []string{""}, ats: []int{0}, inner: "ok"},
		{err: &Fault{Op: "disk", At: 3}, ops: []string{"disk"}, ats: []int{3}, inner: "ok"},
		{err: &Fault{Op: "disk", At: 3, Err: api.OK}, ops: []string{"disk"}, ats: []int{3}, inner: "ok"},
	}
}

// within is m in a fault more.
func (m model) within(op string, at int) model {
	m.err = Wrap(op, at, m.err)
	m.ops = append([]string{op}, m.ops...)
	m.ats = append([]int{at}, m.ats...)
	return m
}

// models are all leaves and empty faults, bare and in several wrappings.
func models() []model {
	out := append(leaves(), emptyFaults()...)
	for _, m := range slices.Clone(out) {
		one := m.within("disk", 3)
		two := one.within("journal", 1)
		same := two.within("disk", -7)
		out = append(out, one, two, same, same.within("", 0).within("disk", 3))
	}
	return out
}

func (m model) path() []string {
	var out []string
	for i, op := range m.ops {
		out = append(out, op+" "+strconv.Itoa(m.ats[i]))
	}
	return out
}

func (m model) text() string {
	return strings.Join(append(m.path(), m.inner), ": ")
}

func (m model) first(op string) (int, bool) {
	if i := slices.Index(m.ops, op); i >= 0 {
		return m.ats[i], true
	}
	return 0, false
}

// P3.1: nil and OK aren't wrapped, and the answer is the nil error itself.
func TestWrapNothing(t *testing.T) {
	for _, op := range []string{"", "disk"} {
		for _, at := range []int{-1, 0, 3} {
			if err := Wrap(op, at, nil); err != nil {
				t.Errorf("Wrap(%q, %d, nil) = %#v", op, at, err)
			}
			if err := Wrap(op, at, api.OK); err != nil {
				t.Errorf("Wrap(%q, %d, OK) = %#v", op, at, err)
			}
		}
	}
}

// P3.1: everything else is wrapped, whatever it has inside.
func TestWrapValues(t *testing.T) {
	for _, m := range models() {
		err := Wrap("disk", 3, m.err)
		f, ok := err.(*Fault)
		if !ok || f == nil || f.Op != "disk" || f.At != 3 {
			t.Fatalf("Wrap of %q = %#v", m.text(), err)
		}
		for _, got := range []error{f.Err, f.Unwrap(), errors.Unwrap(err)} {
			if fmt.Sprintf("%#v", got) != fmt.Sprintf("%#v", m.err) {
				t.Errorf("Wrap(%q) wraps %#v, want %#v", m.text(), got, m.err)
			}
		}
	}
	inner := &Fault{Op: "disk", At: 3, Err: api.OK}
	if err := Wrap("journal", 1, inner); err == nil || errors.Unwrap(err) != error(inner) {
		t.Errorf("Wrap of a fault around OK = %#v", err)
	}
	var none *Fault
	if err := Wrap("journal", 1, none); err == nil || errors.Unwrap(err) != error(none) {
		t.Errorf("Wrap of a nil Fault = %#v", err)
	}
}

// P3.1: texts, written out.
func TestErrorText(t *testing.T) {
	var none *Fault
	cases := []struct {
		f    *Fault
		want string
	}{
		{none, "ok"},
		{&Fault{}, " 0: ok"},
		{&Fault{Op: "disk"}, "disk 0: ok"},
		{&Fault{At: 5}, " 5: ok"},
		{&Fault{Err: api.ErrArg}, " 0: arg"},
		{&Fault{"disk", 3, nil}, "disk 3: ok"},
		{&Fault{"disk", 3, api.OK}, "disk 3: ok"},
		{&Fault{"disk", 3, none}, "disk 3: ok"},
		{&Fault{"disk", 3, api.ErrFull}, "disk 3: full"},
		{&Fault{"disk", -3, api.ErrRange}, "disk -3: range"},
		{&Fault{"disk", 10, api.ErrGone}, "disk 10: gone"},
		{&Fault{"disk", 3, api.Errno(99)}, "disk 3: ?"},
		{&Fault{"disk", 3, api.Errno(-1)}, "disk 3: ?"},
		{&Fault{"disk", math.MaxInt, api.ErrArg}, "disk 9223372036854775807: arg"},
		{&Fault{"disk", math.MinInt, api.ErrArg}, "disk -9223372036854775808: arg"},
		{&Fault{"a b: %d\n\xff", 1, api.ErrArg}, "a b: %d\n\xff 1: arg"},
		{&Fault{"disk", 3, errors.New("%w: x")}, "disk 3: %w: x"},
		{&Fault{"disk", 3, errors.New("")}, "disk 3: "},
		{&Fault{"disk", 3, foreign{&Fault{"a", 1, api.ErrSum}}}, "disk 3: foreign: a 1: sum"},
		{&Fault{"journal", 1, &Fault{"disk", 3, api.ErrFull}}, "journal 1: disk 3: full"},
		{&Fault{"journal", 1, &Fault{"disk", 3, nil}}, "journal 1: disk 3: ok"},
		{&Fault{"", -1, &Fault{}}, " -1:  0: ok"},
	}
	for _, c := range cases {
		if got := c.f.Error(); got != c.want {
			t.Errorf("Error of %#v = %q, want %q", c.f, got, c.want)
		}
	}
}

// P3.1: Unwrap gives what is wrapped, and of a nil Fault the nil error.
func TestUnwrap(t *testing.T) {
	var none *Fault
	if got := none.Unwrap(); got != nil {
		t.Errorf("Unwrap of a nil Fault = %#v", got)
	}
	inner := &Fault{"disk", 3, api.ErrFull}
	for _, want := range []error{nil, api.OK, api.ErrFull, api.Errno(99), inner, none} {
		f := &Fault{"journal", 1, want}
		if got := f.Unwrap(); got != want {
			t.Errorf("Unwrap of %#v = %#v, want %#v", f, got, want)
		}
	}
}

// P3.2: codes, written out.
func TestCodeKnown(t *testing.T) {
	var none *Fault
	cases := []struct {
		err  error
		want api.Errno
	}{
		{nil, api.OK},
		{api.OK, api.OK},
		{none, api.OK},
		{&Fault{}, api.OK},
		{&Fault{"disk", 3, api.OK}, api.OK},
		{&Fault{"disk", 3, none}, api.OK},
		{&Fault{"journal", 1, &Fault{"disk", 3, nil}}, api.OK},
		{errors.New("full"), api.OK},
		{&Fault{"disk", 3, errors.New("full")}, api.OK},
		{api.ErrFull, api.ErrFull},
		{&Fault{"disk", 3, api.ErrFull}, api.ErrFull},
		{&Fault{"", 0, api.ErrArg}, api.ErrArg},
		{&Fault{"journal", 1, &Fault{"disk", 3, api.ErrGone}}, api.ErrGone},
		{api.Errno(99), 99},
		{&Fault{"disk", 3, api.Errno(-1)}, -1},
		// The chapter gives a code to numbers and faults alone.
		{fmt.Errorf("x: %w", api.ErrFull), api.OK},
		{foreign{&Fault{"disk", 3, api.ErrFull}}, api.OK},
		{&Fault{"disk", 3, foreign{api.ErrFull}}, api.OK},
		{&Fault{"disk", 3, liar{}}, api.OK},
	}
	for _, c := range cases {
		if got := Code(c.err); got != c.want {
			t.Errorf("Code(%#v) = %d, want %d", c.err, got, c.want)
		}
	}
}

// P3.2: Is says the same as Code, for every number and every error.
func TestIsEverywhere(t *testing.T) {
	asked := append([]api.Errno{api.OK}, append(codes, noCodes...)...)
	all := append(models(), model{err: nil}, model{err: api.OK})
	for _, m := range all {
		for _, e := range asked {
			if got, want := Is(m.err, e), e == m.code; got != want {
				t.Errorf("Is(%#v, %d) = %t, want %t", m.err, e, got, want)
			}
		}
	}
}

// P3.2: the library's errors.Is finds the code, and no other one.
func TestLibraryIs(t *testing.T) {
	for _, e := range codes {
		err := Wrap("volume", 0, Wrap("journal", 1, Wrap("disk", 3, e)))
		for _, other := range append([]api.Errno{api.OK}, codes...) {
			if got, want := errors.Is(err, other), e == other; got != want {
				t.Errorf("errors.Is(%v, %v) = %t, want %t", err, other, got, want)
			}
		}
	}
	var e api.Errno
	if !errors.As(Wrap("journal", 1, Wrap("disk", 3, api.ErrBusy)), &e) || e != api.ErrBusy {
		t.Errorf("errors.As of a number: %v", e)
	}
}

// P3.2: the library's errors.As finds each fault, the outermost one first.
func TestLibraryAs(t *testing.T) {
	inner := &Fault{"disk", 3, api.ErrFull}
	middle := &Fault{"journal", 1, inner}
	outer := Wrap("volume", 0, middle)
	want := []*Fault{outer.(*Fault), middle, inner}
	var got []*Fault
	for err := outer; err != nil; {
		var f *Fault
		if !errors.As(err, &f) {
			break
		}
		got = append(got, f)
		err = f.Unwrap()
	}
	if !slices.Equal(got, want) {
		t.Errorf("errors.As finds %v, want %v", got, want)
	}
	for _, f := range want {
		if !errors.Is(outer, f) {
			t.Errorf("errors.Is doesn't find %v", f)
		}
	}
}

// P3.3: paths, written out.
func TestPathKnown(t *testing.T) {
	var none *Fault
	cases := []struct {
		err  error
		want []string
	}{
		{nil, nil},
		{api.OK, nil},
		{api.ErrFull, nil},
		{none, nil},
		{errors.New("disk 3: full"), nil},
		{&Fault{}, []string{" 0"}},
		{&Fault{"disk", 3, nil}, []string{"disk 3"}},
		{&Fault{"disk", -3, api.ErrFull}, []string{"disk -3"}},
		{&Fault{"disk", math.MinInt, api.ErrFull}, []string{"disk -9223372036854775808"}},
		{&Fault{"disk", 3, none}, []string{"disk 3"}},
		{&Fault{"journal", 1, &Fault{"disk", 3, api.ErrFull}}, []string{"journal 1", "disk 3"}},
		{&Fault{"disk", 1, &Fault{"disk", 1, api.ErrFull}}, []string{"disk 1", "disk 1"}},
		{&Fault{"disk", 3, errors.New("x")}, []string{"disk 3"}},
		{foreign{&Fault{"disk", 3, api.ErrFull}}, nil},
		{&Fault{"a", 1, foreign{&Fault{"disk", 3, api.ErrFull}}}, []string{"a 1"}},
	}
	for _, c := range cases {
		if got := Path(c.err); !slices.Equal(got, c.want) {
			t.Errorf("Path(%#v) = %q, want %q", c.err, got, c.want)
		}
	}
}

// P3.3: the outermost of several faults with one name; 0 is a number like others.
func TestFirstKnown(t *testing.T) {
	var none *Fault
	err := Wrap("disk", 9, Wrap("journal", 0, Wrap("disk", 3, Wrap("", -2, api.ErrFull))))
	cases := []struct {
		err  error
		op   string
		want int
		ok   bool
	}{
		{err, "disk", 9, true},
		{err, "journal", 0, true},
		{err, "", -2, true},
		{err, "volume", 0, false},
		{err, "Disk", 0, false},
		{err, "dis", 0, false},
		{err, "disk 9", 0, false},
		{err, "full", 0, false},
		{&Fault{}, "", 0, true},
		{&Fault{At: 5}, "", 5, true},
		{none, "", 0, false},
		{&Fault{"disk", 3, none}, "", 0, false},
		{nil, "", 0, false},
		{api.OK, "", 0, false},
		{api.ErrFull, "", 0, false},
		{errors.New("disk 3"), "disk", 0, false},
		{foreign{&Fault{"disk", 3, api.ErrFull}}, "disk", 0, false},
	}
	for _, c := range cases {
		if got, ok := First(c.err, c.op); got != c.want || ok != c.ok {
			t.Errorf("First(%#v, %q) = %d, %t, want %d, %t", c.err, c.op, got, ok, c.want, c.ok)
		}
	}
}

// checkModel holds everything that the package says of an error against its model.
func checkModel(t *testing.T, m model) {
	t.Helper()
	if got := m.err.Error(); got != m.text() {
		t.Errorf("Error = %q, want %q", got, m.text())
	}
	if got := Code(m.err); got != m.code {
		t.Errorf("%q: Code = %d, want %d", m.text(), got, m.code)
	}
	if got := Path(m.err); !slices.Equal(got, m.path()) {
		t.Errorf("%q: Path = %q, want %q", m.text(), got, m.path())
	}
	for _, op := range append([]string{"", "disk", "journal", "nowhere"}, m.ops...) {
		got, ok := First(m.err, op)
		if want, there := m.first(op); got != want || ok != there {
			t.Errorf("%q: First(%q) = %d, %t, want %d, %t", m.text(), op, got, ok, want, there)
		}
	}
}

// P3.4, and with it P3.1 to P3.3: every leaf in every wrapping.
func TestWrappings(t *testing.T) {
	for _, m := range models() {
		checkModel(t, m)
	}
}

// P3.4: wrappings of many depths, names and numbers that look random.
func TestManyWrappings(t *testing.T) {
	seed := uint32(1)
	next := func(n int) int {
		seed = seed*1664525 + 1013904223
		return int(seed>>8) % n
	}
	ops := []string{"", "disk", "journal", "volume", "a b", "disk 3"}
	bare := append(leaves(), emptyFaults()...)
	for range 2000 {
		m := bare[next(len(bare))]
		for range next(9) {
			m = m.within(ops[next(len(ops))], next(41)-20)
		}
		checkModel(t, m)
	}
}

// P3.4: as deep as the document lets things be nested.
func TestDeep(t *testing.T) {
	const depth = 1 << 16
	err := error(api.ErrFull)
	for i := range depth {
		err = Wrap("d", i, err)
	}
	path := Path(err)
	if len(path) != depth || path[0] != "d 65535" || path[depth-1] != "d 0" {
		t.Fatalf("Path has %d places", len(path))
	}
	if want := strings.Join(path, ": ") + ": full"; err.Error() != want {
		t.Error("Error isn't the path and the innermost text")
	}
	if Code(err) != api.ErrFull || !Is(err, api.ErrFull) || Is(err, api.OK) || Is(err, api.ErrBusy) {
		t.Errorf("Code = %v", Code(err))
	}
	if at, ok := First(err, "d"); at != depth-1 || !ok {
		t.Errorf("First = %d, %t", at, ok)
	}
	if at, ok := First(err, "e"); at != 0 || ok {
		t.Errorf("First of another name = %d, %t", at, ok)
	}
}

// R1: an error whose methods panic has no code and no faults; a fault around it
// has a text all the same.
func TestPanicsAreCaught(t *testing.T) {
	var pointer *api.Errno
	for _, bad := range []error{wild{}, pointer, foreign{}, &Fault{"a", 1, wild{}}, foreign{wild{}}} {
		err := Wrap("disk", 3, bad)
		if got := err.Error(); !strings.HasPrefix(got, "disk 3: ") || !strings.HasSuffix(got, ": ?") {
			t.Errorf("Error = %q", got)
		}
		for _, e := range []error{bad, err} {
			if Code(e) != api.OK || !Is(e, api.OK) || Is(e, api.ErrFull) {
				t.Errorf("%T: Code = %v", e, Code(e))
			}
			if at, ok := First(e, "journal"); at != 0 || ok {
				t.Errorf("%T: First = %d, %t", e, at, ok)
			}
		}
		if got, want := Path(err), append([]string{"disk 3"}, Path(bad)...); !slices.Equal(got, want) {
			t.Errorf("Path = %q, want %q", got, want)
		}
	}
}

// R1: a fault that wraps itself is nested deeper than the document says anything
// about, but no call hangs.
func TestSelfWrapping(t *testing.T) {
	a := &Fault{Op: "a", At: 1}
	b := &Fault{Op: "b", At: 2, Err: a}
	a.Err = b
	if !strings.HasPrefix(a.Error(), "a 1: b 2: a 1: ") {
		t.Error("Error doesn't begin with the faults")
	}
	if path := Path(b); len(path) < 2 || path[0] != "b 2" || path[1] != "a 1" {
		t.Errorf("Path has %d places", len(path))
	}
	if Code(a) != api.OK || !Is(a, api.OK) || Is(a, api.ErrFull) {
		t.Errorf("Code = %v", Code(a))
	}
	if at, ok := First(a, "b"); at != 2 || !ok {
		t.Errorf("First = %d, %t", at, ok)
	}
	if at, ok := First(a, "c"); at != 0 || ok {
		t.Errorf("First of another name = %d, %t", at, ok)
	}
}

// R3, R6: asking changes nothing, and an answer is memory of its own.
func TestAskingChangesNothing(t *testing.T) {
	inner := &Fault{"disk", 3, api.ErrFull}
	outer := &Fault{"journal", 1, inner}
	for range 2 {
		path := Path(outer)
		if !slices.Equal(path, []string{"journal 1", "disk 3"}) {
			t.Fatalf("Path = %q", path)
		}
		path[0], path[1] = "x", "y"
		if outer.Error() != "journal 1: disk 3: full" || Code(outer) != api.ErrFull {
			t.Fatalf("Error = %q", outer.Error())
		}
		First(outer, "disk")
		Is(outer, api.OK)
		Wrap("volume", 0, outer)
		if *inner != (Fault{"disk", 3, api.ErrFull}) || *outer != (Fault{"journal", 1, inner}) {
			t.Fatalf("changed: %#v, %#v", inner, outer)
		}
	}
	// A fault says what its fields are now, not what they were.
	inner.At, inner.Err = 4, api.ErrSum
	if outer.Error() != "journal 1: disk 4: sum" || Code(outer) != api.ErrSum {
		t.Errorf("Error = %q", outer.Error())
	}
}
