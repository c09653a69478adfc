package member

import (
	"bytes"
	"encoding/binary"
	"math/rand"
	"slices"
	"testing"

	"isobar/api"
)

// step is a change that is tried.
type step struct {
	volume, mark int
	removed      bool
}

// model is a group as the chapter words it.
type model struct {
	initial []int
	changes []step
}

// at returns what belongs to the group at a marker: what the last change of each volume, of
// those whose markers aren't above it, says.
func (m *model) at(mark int) []int {
	var out []int
	for v := range api.Volumes {
		in := slices.Contains(m.initial, v)
		for _, c := range m.changes {
			if c.volume == v && c.mark <= mark {
				in = !c.removed
			}
		}
		if in {
			out = append(out, v)
		}
	}
	return out
}

// last returns the greatest of the changes' markers.
func (m *model) last() int {
	last := 0
	for _, c := range m.changes {
		last = max(last, c.mark)
	}
	return last
}

// change performs a step if it is allowed, and otherwise returns what is wrong with it.
func (m *model) change(s step) api.Errno {
	if s.volume != 0 && s.volume != 1 && s.volume != 2 && s.volume != 3 {
		return api.ErrRange
	}
	if s.mark <= m.last() {
		return api.ErrStale
	}
	if s.mark > greatest {
		return api.ErrArg
	}
	if slices.Contains(m.at(m.last()), s.volume) == !s.removed {
		return api.ErrState
	}
	if len(m.changes) == 100 {
		return api.ErrFull
	}
	m.changes = append(m.changes, s)
	return api.OK
}

// numbers returns what is encoded of the group.
func (m *model) numbers() []uint64 {
	l := []uint64{0, uint64(len(m.changes))}
	for _, v := range m.initial {
		l[0] += []uint64{1, 2, 4, 8}[v]
	}
	for _, c := range m.changes {
		code := uint64(c.volume) * 2
		if c.removed {
			code++
		}
		l = append(l, uint64(c.mark), code)
	}
	return l
}

// do tries a step on a group and on its model.
func do(t *testing.T, g *Group, m *model, s step) {
	t.Helper()
	want := m.change(s)
	switch {
	case want == api.OK && s.removed:
		remove(t, g, s.volume, s.mark)
	case want == api.OK:
		add(t, g, s.volume, s.mark)
	case s.removed:
		noRemove(t, g, s.volume, s.mark, want)
	default:
		noAdd(t, g, s.volume, s.mark, want)
	}
}

// compare compares all that a group tells with its model.
func compare(t *testing.T, g *Group, m *model) {
	t.Helper()
	wantNow(t, g, m.last(), m.at(m.last())...)
	marks := slices.Clone(asked)
	for _, c := range m.changes {
		marks = append(marks, c.mark-1, c.mark, c.mark+1)
	}
	for _, mark := range marks {
		wantAt(t, g, mark, m.at(mark)...)
	}
	if b := g.Bytes(); !bytes.Equal(b, numbers(m.numbers()...)) {
		t.Fatalf("Bytes = % x, want % x", b, numbers(m.numbers()...))
	}
}

// play tries steps on a new group.
func play(t *testing.T, initial []int, steps []step) {
	t.Helper()
	defer func() {
		if t.Failed() {
			t.Logf("the history is %v and then %v", initial, steps)
		}
	}()
	g, m := made(t, initial...), &model{initial: initial}
	for _, s := range steps {
		do(t, g, m, s)
	}
	compare(t, g, m)
	compare(t, decoded(t, g.Bytes()), m)
}

// playAll tries all histories of n of these steps behind those before.
func playAll(t *testing.T, initial []int, before, steps []step, n int) {
	t.Helper()
	if n == 0 {
		play(t, initial, before)
		return
	}
	for _, s := range steps {
		playAll(t, initial, append(slices.Clone(before), s), steps, n-1)
	}
}

// P15.1 to P15.3: all short histories, of one volume, of two, and of all and others.
func TestAllHistories(t *testing.T) {
	var one, two, all []step
	for _, removed := range []bool{false, true} {
		for mark := range 5 {
			one = append(one, step{3, mark, removed})
		}
		for v := range 2 {
			for mark := 1; mark <= 3; mark++ {
				two = append(two, step{v, mark, removed})
			}
		}
		for v := -1; v <= 4; v++ {
			for _, mark := range []int{-1, 0, 1, 2, greatest, greatest + 1} {
				all = append(all, step{v, mark, removed})
			}
		}
	}
	playAll(t, []int{3}, nil, one, 3)
	playAll(t, []int{0, 1, 2}, nil, one, 3)
	playAll(t, []int{0}, nil, two, 3)
	for n := range 1 << 4 {
		playAll(t, subset(n), nil, all, 1)
	}
	playAll(t, []int{1, 2}, nil, all, 2)
}

// P15.1 to P15.4: long histories. What belonged to the group at a marker stays when changes
// with greater markers follow, whatever else is tried.
func TestLongHistories(t *testing.T) {
	random := rand.New(rand.NewSource(15))
	for n := range 40 {
		initial := subset(random.Intn(16))
		g, m := made(t, initial...), &model{initial: initial}
		seen := map[int][]int{}
		for range 150 {
			s := step{random.Intn(4), m.last() + 1 + random.Intn(1+n), random.Intn(2) == 0}
			switch random.Intn(16) {
			case 0:
				s.volume = random.Intn(8) - 2
			case 1:
				s.mark -= random.Intn(4 + n)
			case 2:
				s.mark = greatest + 1 + random.Intn(3)
			}
			do(t, g, m, s)
			for mark, want := range seen {
				wantAt(t, g, mark, want...)
			}
			for mark := m.last() - 3; mark <= m.last(); mark++ {
				seen[mark] = g.At(mark)
			}
			if random.Intn(10) == 0 {
				g = decoded(t, g.Bytes())
			}
		}
		compare(t, g, m)
	}
}

// valid returns the numbers that some bytes are the encoding of, and the model that these
// numbers tell of; false if there is none.
func valid(b []byte) (*model, bool) {
	var l []uint64
	for rest := b; len(rest) > 0; {
		n, size := binary.Uvarint(rest)
		if size <= 0 {
			return nil, false
		}
		l, rest = append(l, n), rest[size:]
	}
	if !bytes.Equal(numbers(l...), b) || len(l) < 2 || l[0] > 15 || l[1] > 100 || uint64(len(l)) != 2+2*l[1] {
		return nil, false
	}
	m := &model{initial: subset(int(l[0]))}
	for l = l[2:]; len(l) > 0; l = l[2:] {
		if l[0] > greatest || l[1] > 7 || m.change(step{int(l[1] / 2), int(l[0]), l[1]%2 == 1}) != api.OK {
			return nil, false
		}
	}
	return m, true
}

// compareBytes compares FromBytes of some bytes with the model that they tell of, and reports
// whether there is one.
func compareBytes(t *testing.T, b []byte) bool {
	t.Helper()
	m, ok := valid(b)
	if !ok {
		noGroup(t, b)
		return false
	}
	g := decoded(t, b)
	wantNow(t, g, m.last(), m.at(m.last())...)
	if got := g.Bytes(); !bytes.Equal(got, b) {
		t.Fatalf("FromBytes(% x) is encoded as % x", b, got)
	}
	return true
}

// P15.3: all sequences of up to two bytes, and all longer ones of some bytes.
func TestAllBytes(t *testing.T) {
	compareBytes(t, nil)
	for a := range 256 {
		compareBytes(t, []byte{byte(a)})
		for b := range 256 {
			compareBytes(t, []byte{byte(a), byte(b)})
		}
	}
	found := 0
	var from func(b, of []byte, most int)
	from = func(b, of []byte, most int) {
		if compareBytes(t, b) {
			found++
		}
		if len(b) == most {
			return
		}
		for _, x := range of {
			from(append(slices.Clip(b), x), of, most)
		}
	}
	from(nil, []byte{0, 1, 2, 3, 5, 7, 8, 15, 16, 100, 127, 128, 129, 255}, 4)
	from(nil, []byte{0, 1, 2, 3, 6, 7, 128}, 6)
	if found < 1000 {
		t.Errorf("only %d groups", found)
	}
}

// P15.3: groups with a byte that is changed, removed or inserted.
func TestSpoiltBytes(t *testing.T) {
	for _, g := range samples(t) {
		b := g.Bytes()
		for i := range b {
			for bit := range 8 {
				x := slices.Clone(b)
				x[i] ^= 1 << bit
				compareBytes(t, x)
			}
			for _, n := range []byte{0, 1, 7, 127, 128, 255} {
				x := slices.Clone(b)
				x[i] = n
				compareBytes(t, x)
				compareBytes(t, slices.Insert(x, i, n))
				compareBytes(t, slices.Insert(slices.Clone(b), i, n))
			}
			compareBytes(t, slices.Delete(slices.Clone(b), i, i+1))
		}
	}
}

// P15.3: any bytes.
func TestAnyBytes(t *testing.T) {
	random := rand.New(rand.NewSource(3))
	for range 100000 {
		b := make([]byte, random.Intn(40))
		for i := range b {
			b[i] = byte(random.Intn(256) >> random.Intn(9))
		}
		compareBytes(t, b)
	}
}
