package tests

import (
	"slices"
	"testing"

	"loop.example/streamlayers/impl"
)

// lastStep is the greatest Step with which a reader may begin to read.
const lastStep = impl.MaxCalls - impl.MaxMore

// countsOfReaders are numbers of bytes that a reader may be asked for.
var countsOfReaders = []int{1, 2, 3, 7, 17, 60}

// lined returns n bytes with a 10 behind every 4 others, and two 10 at once.
func lined(n int) []int {
	list := counted(n)
	for i := range list {
		if i%5 == 4 || i == 10 {
			list[i] = 10
		}
	}
	return list
}

// readAhead returns the reader of a device that has read the last k bytes ahead of its place.
func readAhead(d impl.Device, k int, size int) impl.Reader {
	return impl.Reader{Dev: d, Buf: slices.Clone(d.Data[d.At-k : d.At]), Size: size}
}

// newReader returns the reader of bytes and a script, with nothing read ahead.
func newReader(data []int, size int, script ...int) impl.Reader {
	return impl.Reader{Dev: atPlace(data, 0, 0, script...), Size: size}
}

// someReaders returns valid readers that may begin to read: with places in, at
// and behind the end, with nothing, something and as much as possible in Buf,
// and with calls that give nothing.
func someReaders() []impl.Reader {
	scripts := [][]int{nil, {60, 2, 1}, {2, 0, 3, -1, 1}, {0, 0, 5}, {-1, 1, 1, 0, 4, 60, -1}, {1, 1, 1, 1, 1, 1, 1, 1, 1, 1, 1, 0}}
	var out []impl.Reader
	for _, data := range [][]int{nil, counted(1), lined(5), lined(24), counted(60), lined(60)} {
		for _, at := range []int{0, 1, 4, 16, 44, 60} {
			for _, script := range scripts {
				for _, step := range []int{0, 1, lastStep} {
					d := atPlace(data, at, step, script...)
					for _, size := range []int{1, 2, 5, 16} {
						out = append(out, impl.Reader{Dev: d, Size: size})
						for _, k := range slices.Compact([]int{1, min(3, size), size}) {
							if at <= len(data) && k <= min(at, size) {
								out = append(out, readAhead(d, k, size))
							}
						}
					}
				}
			}
		}
	}
	return out
}

// wrongReaders returns readers each of which is not valid for one reason.
func wrongReaders() []impl.Reader {
	d := atPlace([]int{1, 2, 3, 2, 3}, 3, 0)
	var out []impl.Reader
	for _, wrong := range wrongDevices() {
		out = append(out, impl.Reader{Dev: wrong, Size: 1})
	}
	for _, size := range append([]int{0, -1, 17}, huge...) {
		out = append(out, impl.Reader{Dev: d, Size: size})
	}
	for _, buf := range [][]int{{2}, {1}, {4}, {1, 2}, {3, 2}, {2, 2}, {3, 3}, {2, 3, 2}, {0, 1, 2, 3}, {-1}, {256}, {3, 0}} {
		out = append(out, impl.Reader{Dev: d, Buf: buf, Size: 16})
	}
	out = append(out,
		readAhead(d, 2, 1),
		readAhead(d, 3, 2),
		readAhead(atPlace(counted(60), 17, 0), 17, 16),
		readAhead(atPlace(counted(60), 17, 0), 17, 17),
		// A byte that is asked for must be one: the place is behind the end.
		impl.Reader{Dev: atPlace([]int{1, 2}, 3, 0), Buf: []int{0}, Size: 4},
		impl.Reader{Dev: atPlace([]int{1, 2}, 3, 0), Buf: []int{2}, Size: 4},
		impl.Reader{Dev: atPlace([]int{1, 2}, 3, 0), Buf: []int{2, 0}, Size: 4},
		impl.Reader{Dev: atPlace(nil, 60, 0), Buf: []int{0}, Size: 4},
		// Nothing is ahead of the beginning.
		impl.Reader{Dev: atPlace([]int{1, 2}, 0, 0), Buf: []int{1}, Size: 4},
		impl.Reader{Dev: atPlace(nil, 0, 0), Buf: []int{0}, Size: 4},
	)
	// Spare capacity is no byte, on neither side.
	spare := impl.Reader{Dev: impl.Device{Data: roomy([]int{1, 2}), At: 3}, Buf: []int{-7}, Size: 4}
	return append(out, spare)
}

// sameReader reports whether two readers are the same, where nil is empty.
func sameReader(a, b impl.Reader) bool {
	return sameDevice(a.Dev, b.Dev) && slices.Equal(a.Buf, b.Buf) && a.Size == b.Size
}

// isZeroReader reports whether a reader is the zero value.
func isZeroReader(r impl.Reader) bool {
	return isZero(r.Dev) && len(r.Buf) == 0 && r.Size == 0
}

// sameLists reports whether two lists of lists are the same, where nil is empty.
func sameLists(a, b [][]int) bool {
	return slices.EqualFunc(a, b, func(x, y []int) bool { return slices.Equal(x, y) })
}

// aheadOf returns the bytes that are ahead of a reader: those read ahead, and then those of its device.
func aheadOf(r impl.Reader) []int {
	return joined(r.Buf, impl.RestOf(r.Dev))
}

// firstOf returns the first n bytes of a list, or all if there are fewer.
func firstOf(list []int, n int) []int {
	return list[:min(n, len(list))]
}

// model is a reader as it is told by numbers alone: the place of the next byte,
// how many are held from there on, and how many calls were made. It reads byte
// by byte.
type model struct {
	r           impl.Reader
	place, held int
	step        int
}

// modelOf returns the model of a valid reader.
func modelOf(r impl.Reader) *model {
	return &model{r: r, place: r.Dev.At - len(r.Buf), held: len(r.Buf), step: r.Dev.Step}
}

// reader returns the reader that the model stands for now.
func (m *model) reader() impl.Reader {
	r := impl.Reader{Dev: cloned(m.r.Dev), Size: m.r.Size}
	r.Dev.At, r.Dev.Step = m.place+m.held, m.step
	if m.held > 0 {
		r.Buf = r.Dev.Data[m.place : m.place+m.held]
	}
	return r
}

// look makes sure that a byte is held, or tells why there is none.
func (m *model) look() int {
	if m.held > 0 {
		return impl.StOk
	}
	d := m.r.Dev
	d.Step = m.step
	m.step++
	left := max(len(d.Data)-m.place, 0)
	switch may := mayHave(d); {
	case may == -1:
		return impl.StFault
	case may == 0:
		return impl.StNone
	case left == 0:
		return impl.StEnd
	default:
		m.held = min(m.r.Size, may, left)
		return impl.StOk
	}
}

// pull reads bytes, one after the other, until stop says that these are enough, or there are no more.
func (m *model) pull(stop func(list []int) bool) ([]int, int) {
	var list []int
	for !stop(list) {
		if st := m.look(); st != impl.StOk {
			return list, st
		}
		list = append(list, m.r.Dev.Data[m.place])
		m.place++
		m.held--
	}
	return list, impl.StOk
}

// checkRead checks what a function that reads returned, by the model.
func checkRead(t *testing.T, r impl.Reader, what string, n int, got impl.Reader, list []int, st int, m *model, wantList []int, wantSt int) {
	t.Helper()
	if want := m.reader(); !sameReader(got, want) || !slices.Equal(list, wantList) || st != wantSt {
		t.Fatalf("%s(%v, %d) = %v, %v, %d, not %v, %v, %d", what, r, n, got, list, st, want, wantList, wantSt)
	}
	if !impl.ValidReader(got) {
		t.Fatalf("%s(%v, %d) = %v, which is not valid", what, r, n, got)
	}
}

// readStep is one of several reads, one after the other: how many bytes are
// asked for, what is given, and what is read ahead, the place of the device and
// the number of calls after that.
type readStep struct {
	n        int
	list     []int
	st       int
	buf      []int
	at, step int
}

// checkSteps checks reads, one after the other.
func checkSteps(t *testing.T, r impl.Reader, read func(r impl.Reader, n int) (impl.Reader, []int, int), steps []readStep) {
	t.Helper()
	for i, s := range steps {
		next, list, st := read(r, s.n)
		want := impl.Reader{Dev: atPlace(r.Dev.Data, s.at, s.step, r.Dev.Script...), Buf: s.buf, Size: r.Size}
		if !slices.Equal(list, s.list) || st != s.st || !sameReader(next, want) {
			t.Errorf("read %d, of %d, gave %v, %v, %d", i, s.n, next, list, st)
		}
		r = next
	}
}

func TestConstantsOfReaders(t *testing.T) {
	if impl.MaxSize != 16 || impl.MaxMore != 100 {
		t.Errorf("the constants are %d, %d", impl.MaxSize, impl.MaxMore)
	}
}

func TestValidReader(t *testing.T) {
	for _, r := range someReaders() {
		if !impl.ValidReader(r) {
			t.Fatalf("ValidReader(%v) = false", r)
		}
	}
	for _, r := range []impl.Reader{
		{Size: 1},
		{Size: 16},
		{Dev: atPlace([]int{1, 2}, 3, 0), Buf: []int{}, Size: 4},
		{Dev: atPlace(nil, 60, 1000, 0), Size: 1},
		readAhead(atPlace(counted(60), 16, 1000), 16, 16),
		readAhead(atPlace(counted(60), 60, 0), 16, 16),
		readAhead(atPlace([]int{1, 1, 1, 1}, 2, 0), 2, 3),
	} {
		if !impl.ValidReader(r) {
			t.Errorf("ValidReader(%v) = false", r)
		}
	}
	for _, r := range wrongReaders() {
		if impl.ValidReader(r) {
			t.Errorf("ValidReader(%v) = true", r)
		}
	}
}

// Promise 9: RestOf has as many bytes as there are from At on, also where
// readers have left their devices.
func TestPromise9WhatIsAheadOfReadDevicesIsWhatIsLeft(t *testing.T) {
	check := func(d impl.Device) {
		t.Helper()
		if rest := impl.RestOf(d); len(rest) != max(len(d.Data)-d.At, 0) {
			t.Fatalf("RestOf(%v) = %v", d, rest)
		}
	}
	for _, r := range someReaders() {
		full, _, _ := impl.ReadFull(r, 7)
		check(full.Dev)
		for _, place := range []int{0, 1, len(r.Dev.Data), impl.MaxData} {
			moved, _ := impl.SeekReader(r, place, impl.SkStart)
			check(moved.Dev)
		}
	}
}

// Promise 12: ahead of a valid reader is what Data has from TellReader on.
func TestPromise12ReadersHaveReadAheadWhatIsThere(t *testing.T) {
	for _, r := range someReaders() {
		data, place := r.Dev.Data, impl.TellReader(r)
		if place < 0 || !slices.Equal(aheadOf(r), data[min(place, len(data)):]) {
			t.Fatalf("ahead of %v is %v, and TellReader is %d", r, aheadOf(r), place)
		}
	}
}

// Promise 13: TellReader of NewReader is At of the device.
func TestPromise13NewReadersHaveReadNothing(t *testing.T) {
	for _, d := range someDevices() {
		for _, size := range []int{1, 2, 15, 16} {
			r, ok := impl.NewReader(d, size)
			if !ok || !sameReader(r, impl.Reader{Dev: d, Size: size}) {
				t.Fatalf("NewReader(%v, %d) = %v, %v", d, size, r, ok)
			}
			if place := impl.TellReader(r); place != d.At {
				t.Fatalf("TellReader of NewReader(%v, %d) = %d", d, size, place)
			}
		}
	}
}

func TestNewReaderWrong(t *testing.T) {
	check := func(d impl.Device, size int) {
		t.Helper()
		if r, ok := impl.NewReader(d, size); ok || !isZeroReader(r) {
			t.Errorf("NewReader(%v, %d) = %v, %v", d, size, r, ok)
		}
	}
	for _, size := range append([]int{0, -1, 17}, huge...) {
		check(atPlace(counted(5), 1, 0), size)
	}
	for _, d := range wrongDevices() {
		check(d, 1)
	}
}

// Promise 14: the bytes of ReadSome are the first ones that are ahead, at most
// n, with at most one call, and none if there are bytes in Buf.
func TestPromise14ReadersGiveWhatIsAhead(t *testing.T) {
	for _, r := range someReaders() {
		for _, n := range countsOfReaders {
			next, list, st := impl.ReadSome(r, n)
			calls := next.Dev.Step - r.Dev.Step
			if len(list) > n || !slices.Equal(joined(list, aheadOf(next)), aheadOf(r)) || calls < 0 || calls > 1 || len(r.Buf) > 0 && calls > 0 {
				t.Fatalf("ReadSome(%v, %d) = %v, %v, %d", r, n, next, list, st)
			}
			m := modelOf(r)
			want, wantSt := m.pull(func(list []int) bool { return len(list) == n || len(list) > 0 && m.held == 0 })
			checkRead(t, r, "ReadSome", n, next, list, st, m, want, wantSt)
		}
	}
}

// Each call asks for Size bytes, however few are wanted, and what is in Buf is
// given alone, however many are wanted.
func TestReadSomeByScript(t *testing.T) {
	r := newReader([]int{1, 2, 3, 4, 5, 6, 7, 8, 9, 11}, 4, 2, 0, -1, 60, 3)
	checkSteps(t, r, impl.ReadSome, []readStep{
		{1, []int{1}, impl.StOk, []int{2}, 2, 1},
		{60, []int{2}, impl.StOk, nil, 2, 1},
		{60, nil, impl.StNone, nil, 2, 2},
		{60, nil, impl.StFault, nil, 2, 3},
		{3, []int{3, 4, 5}, impl.StOk, []int{6}, 6, 4},
		{1, []int{6}, impl.StOk, nil, 6, 4},
		{2, []int{7, 8}, impl.StOk, []int{9}, 9, 5},
		{2, []int{9}, impl.StOk, nil, 9, 5},
		{2, []int{11}, impl.StOk, nil, 10, 6},
		{2, nil, impl.StEnd, nil, 10, 7},
		{2, nil, impl.StEnd, nil, 10, 8},
	})
}

// Promise 15: the bytes of ReadFull are the first ones that are ahead, n
// exactly if it ends with StOk, and TellReader is as much greater.
func TestPromise15FullReadsGiveAllOrTellWhy(t *testing.T) {
	for _, r := range someReaders() {
		for _, n := range append([]int{0}, countsOfReaders...) {
			next, list, st := impl.ReadFull(r, n)
			if !slices.Equal(joined(list, aheadOf(next)), aheadOf(r)) || len(list) > n || (len(list) == n) != (st == impl.StOk) ||
				impl.TellReader(next) != impl.TellReader(r)+len(list) {
				t.Fatalf("ReadFull(%v, %d) = %v, %v, %d", r, n, next, list, st)
			}
			m := modelOf(r)
			want, wantSt := m.pull(func(list []int) bool { return len(list) == n })
			checkRead(t, r, "ReadFull", n, next, list, st, m, want, wantSt)
		}
	}
}

// A call that gives nothing in the middle ends the read, and leaves what was
// read ahead to the next one.
func TestReadFullByScript(t *testing.T) {
	r := newReader([]int{1, 2, 3, 4, 5, 6, 7, 8}, 3, 2, 0, 60, -1, 1)
	checkSteps(t, r, impl.ReadFull, []readStep{
		{0, nil, impl.StOk, nil, 0, 0},
		{4, []int{1, 2}, impl.StNone, nil, 2, 2},
		{1, []int{3}, impl.StOk, []int{4, 5}, 5, 3},
		{0, nil, impl.StOk, []int{4, 5}, 5, 3},
		{2, []int{4, 5}, impl.StOk, nil, 5, 3},
		{0, nil, impl.StOk, nil, 5, 3},
		{60, nil, impl.StFault, nil, 5, 4},
		{2, []int{6, 7}, impl.StOk, []int{8}, 8, 6},
		{2, []int{8}, impl.StEnd, nil, 8, 7},
		{0, nil, impl.StOk, nil, 8, 7},
		{1, nil, impl.StEnd, nil, 8, 8},
	})
}

// Promise 16: for a smooth device ReadFull gives n bytes, or all that are
// ahead, and ends with StEnd then.
func TestPromise16SmoothReadsEndWithTheBytes(t *testing.T) {
	for _, r := range someReaders() {
		if !impl.IsSmooth(r.Dev) {
			continue
		}
		for n := 0; n <= impl.MaxData; n++ {
			_, list, st := impl.ReadFull(r, n)
			want, wantSt := firstOf(aheadOf(r), n), impl.StOk
			if len(want) < n {
				wantSt = impl.StEnd
			}
			if !slices.Equal(list, want) || st != wantSt {
				t.Fatalf("ReadFull(%v, %d) = %v, %d", r, n, list, st)
			}
		}
	}
}

// Promise 17: for a smooth device ReadFull of two numbers of bytes, one after
// the other, gives what ReadFull of both together gives.
func TestPromise17TwoReadsAreOne(t *testing.T) {
	for _, r := range someReaders() {
		if !impl.IsSmooth(r.Dev) {
			continue
		}
		for _, first := range []int{0, 1, 4, 16, 30, 59, 60} {
			for _, then := range []int{0, 1, 3, 30, 60 - first} {
				if first+then > impl.MaxData {
					continue
				}
				next, list1, _ := impl.ReadFull(r, first)
				if next.Dev.Step > lastStep {
					continue
				}
				next, list2, st2 := impl.ReadFull(next, then)
				both, list, st := impl.ReadFull(r, first+then)
				if !slices.Equal(joined(list1, list2), list) || impl.TellReader(next) != impl.TellReader(both) || then > 0 && st != st2 {
					t.Fatalf("ReadFull(%v, %d), and then %d: %v, %v, and %v at once", r, first, then, list1, list2, list)
				}
			}
		}
	}
}

// Promise 18: the bytes of ReadRest are the first ones that are ahead, all for
// a smooth device, and it never ends with StOk.
func TestPromise18TheRestIsAll(t *testing.T) {
	for _, r := range someReaders() {
		next, list, st := impl.ReadRest(r)
		if !slices.Equal(joined(list, aheadOf(next)), aheadOf(r)) || st == impl.StOk {
			t.Fatalf("ReadRest(%v) = %v, %v, %d", r, next, list, st)
		}
		if impl.IsSmooth(r.Dev) && (st != impl.StEnd || len(aheadOf(next)) > 0) {
			t.Fatalf("ReadRest(%v) = %v, %v, %d", r, next, list, st)
		}
		m := modelOf(r)
		want, wantSt := m.pull(func([]int) bool { return false })
		checkRead(t, r, "ReadRest", 0, next, list, st, m, want, wantSt)
	}
}

func TestReadRestByScript(t *testing.T) {
	for _, c := range []struct {
		script   []int
		list     []int
		st       int
		at, step int
	}{
		{nil, []int{1, 2, 3, 4, 5}, impl.StEnd, 5, 4},
		{[]int{1, 1, 60}, []int{1, 2, 3, 4, 5}, impl.StEnd, 5, 5},
		{[]int{0}, nil, impl.StNone, 0, 1},
		{[]int{-1}, nil, impl.StFault, 0, 1},
		{[]int{1, 0, 1}, []int{1}, impl.StNone, 1, 2},
		{[]int{1, 60, -1}, []int{1, 2, 3}, impl.StFault, 3, 3},
		{[]int{60, 60, 60, 0}, []int{1, 2, 3, 4, 5}, impl.StNone, 5, 4},
		{[]int{60, 60, 60, 60, -1}, []int{1, 2, 3, 4, 5}, impl.StEnd, 5, 4},
	} {
		next, list, st := impl.ReadRest(newReader([]int{1, 2, 3, 4, 5}, 2, c.script...))
		want := impl.Reader{Dev: atPlace([]int{1, 2, 3, 4, 5}, c.at, c.step, c.script...), Size: 2}
		if !slices.Equal(list, c.list) || st != c.st || !sameReader(next, want) {
			t.Errorf("ReadRest with %v = %v, %v, %d", c.script, next, list, st)
		}
	}
}

// Promise 19: TellReader and what is ahead are the same after PeekReader, and
// its bytes are the first ones of that.
func TestPromise19PeekingReadsNothing(t *testing.T) {
	for _, r := range someReaders() {
		for _, n := range countsOfReaders {
			next, list, st := impl.PeekReader(r, n)
			if impl.TellReader(next) != impl.TellReader(r) || !slices.Equal(aheadOf(next), aheadOf(r)) || len(list) > n ||
				!slices.Equal(list, firstOf(aheadOf(r), len(list))) {
				t.Fatalf("PeekReader(%v, %d) = %v, %v, %d", r, n, next, list, st)
			}
			m := modelOf(r)
			wantSt := m.look()
			var want []int
			if wantSt == impl.StOk {
				want = firstOf(r.Dev.Data[m.place:m.place+m.held], n)
			}
			checkRead(t, r, "PeekReader", n, next, list, st, m, want, wantSt)
		}
	}
}

func TestPeekReaderByScript(t *testing.T) {
	r := newReader([]int{1, 2, 3, 4, 5}, 4, 0, 3, -1)
	for i, c := range []struct {
		n    int
		list []int
		st   int
		step int
	}{
		{2, nil, impl.StNone, 1},
		{2, []int{1, 2}, impl.StOk, 2},
		{60, []int{1, 2, 3}, impl.StOk, 2},
		{1, []int{1}, impl.StOk, 2},
	} {
		next, list, st := impl.PeekReader(r, c.n)
		if !slices.Equal(list, c.list) || st != c.st || next.Dev.Step != c.step || impl.TellReader(next) != 0 {
			t.Errorf("peek %d: PeekReader(%d) = %v, %v, %d", i, c.n, next, list, st)
		}
		r = next
	}
	r, _, _ = impl.ReadFull(r, 3)
	if next, list, st := impl.PeekReader(r, 1); len(list) != 0 || st != impl.StFault || next.Dev.Step != 3 {
		t.Errorf("PeekReader = %v, %v, %d", next, list, st)
	}
	end := impl.Reader{Dev: atPlace(counted(5), 5, 0), Size: 4}
	if next, list, st := impl.PeekReader(end, 1); len(list) != 0 || st != impl.StEnd || next.Dev.Step != 1 {
		t.Errorf("PeekReader at the end = %v, %v, %d", next, list, st)
	}
}

// Promise 20: ReadSome after PeekReader that gave bytes makes no call, and
// gives them.
func TestPromise20WhatIsPeekedIsReadNext(t *testing.T) {
	for _, r := range someReaders() {
		for _, n := range countsOfReaders {
			peeked, want, st := impl.PeekReader(r, n)
			if len(want) == 0 || peeked.Dev.Step > lastStep {
				continue
			}
			next, list, st2 := impl.ReadSome(peeked, n)
			if st != impl.StOk || st2 != impl.StOk || !slices.Equal(list, want) || next.Dev.Step != peeked.Dev.Step {
				t.Fatalf("PeekReader(%v, %d) = %v, and then ReadSome = %v, %d", r, n, want, list, st2)
			}
		}
	}
}

// Promise 21: ReadUntil gives the first bytes that are ahead, at most limit,
// and has b at most as the last one.
func TestPromise21LinesEndWithTheirByte(t *testing.T) {
	for _, r := range someReaders() {
		for _, limit := range append([]int{0}, countsOfReaders...) {
			for _, b := range []int{10, 1, 0, 255, 50} {
				next, list, st := impl.ReadUntil(r, b, limit)
				i := slices.Index(list, b)
				if !slices.Equal(joined(list, aheadOf(next)), aheadOf(r)) || len(list) > limit || i >= 0 && i < len(list)-1 {
					t.Fatalf("ReadUntil(%v, %d, %d) = %v, %v, %d", r, b, limit, next, list, st)
				}
				if (st == impl.StOk) != (i >= 0 || len(list) == limit) {
					t.Fatalf("ReadUntil(%v, %d, %d) = %v, %v, %d", r, b, limit, next, list, st)
				}
				m := modelOf(r)
				want, wantSt := m.pull(func(list []int) bool { return slices.Contains(list, b) || len(list) == limit })
				checkRead(t, r, "ReadUntil", limit, next, list, st, m, want, wantSt)
			}
		}
	}
}

func TestReadUntilByScript(t *testing.T) {
	r := newReader([]int{1, 2, 10, 10, 5, 6, 7, 10, 9}, 4, 2, 0, 3, -1, 60)
	checkSteps(t, r, func(r impl.Reader, n int) (impl.Reader, []int, int) {
		return impl.ReadUntil(r, 10, n)
	}, []readStep{
		{0, nil, impl.StOk, nil, 0, 0},
		{60, []int{1, 2}, impl.StNone, nil, 2, 2},
		{60, []int{10}, impl.StOk, []int{10, 5}, 5, 3},
		{0, nil, impl.StOk, []int{10, 5}, 5, 3},
		{1, []int{10}, impl.StOk, []int{5}, 5, 3},
		{1, []int{5}, impl.StOk, nil, 5, 3},
		{2, nil, impl.StFault, nil, 5, 4},
		{2, []int{6, 7}, impl.StOk, []int{10, 9}, 9, 5},
		{2, []int{10}, impl.StOk, []int{9}, 9, 5},
		{1, []int{9}, impl.StOk, nil, 9, 5},
		{0, nil, impl.StOk, nil, 9, 5},
		{1, nil, impl.StEnd, nil, 9, 6},
	})
}

func TestReadUntilBytesAndLimits(t *testing.T) {
	r := newReader([]int{0, 255, 7, 255}, 16)
	for _, c := range []struct {
		b, limit int
		list     []int
		st       int
	}{
		{0, 60, []int{0}, impl.StOk},
		{255, 60, []int{0, 255}, impl.StOk},
		{255, 2, []int{0, 255}, impl.StOk},
		{255, 1, []int{0}, impl.StOk},
		{9, 4, []int{0, 255, 7, 255}, impl.StOk},
		{9, 5, []int{0, 255, 7, 255}, impl.StEnd},
	} {
		if _, list, st := impl.ReadUntil(r, c.b, c.limit); !slices.Equal(list, c.list) || st != c.st {
			t.Errorf("ReadUntil(%d, %d) = %v, %d", c.b, c.limit, list, st)
		}
	}
}

// Promise 22: TellReader is At of Dev, less by what was read ahead.
func TestPromise22ReadersAreBehindTheirDevices(t *testing.T) {
	for _, r := range someReaders() {
		if place := impl.TellReader(r); place != r.Dev.At-len(r.Buf) {
			t.Fatalf("TellReader(%v) = %d", r, place)
		}
	}
	for _, r := range []impl.Reader{readAhead(atPlace(counted(60), 60, 1000), 16, 16), {Dev: atPlace(nil, 44, 901), Size: 1}} {
		if place := impl.TellReader(r); place != 44 {
			t.Errorf("TellReader(%v) = %d", r, place)
		}
	}
	for _, r := range wrongReaders() {
		if place := impl.TellReader(r); place != -1 {
			t.Errorf("TellReader(%v) = %d", r, place)
		}
	}
}

// seekWant returns the reader at another place, and whether there is one, by the places alone.
func seekWant(r impl.Reader, off, whence int) (impl.Reader, bool) {
	first := r.Dev.At - len(r.Buf)
	place := off + []int{impl.SkStart: 0, impl.SkNow: first, impl.SkEnd: len(r.Dev.Data)}[whence]
	if off < -impl.MaxData || off > impl.MaxData || place < 0 || place > impl.MaxData {
		return impl.Reader{}, false
	}
	want := impl.Reader{Dev: cloned(r.Dev), Size: r.Size}
	want.Dev.At = place
	if first <= place && place < r.Dev.At && len(r.Buf) > 0 {
		want.Dev.At = r.Dev.At
		want.Buf = r.Dev.Data[place:r.Dev.At]
	}
	return want, true
}

// Promise 23: after SeekReader what is ahead is what Data has from its place
// on, and where that was read ahead the device stays.
func TestPromise23ReadersAreWhereTheyAreTold(t *testing.T) {
	for _, r := range someReaders() {
		if r.Dev.Step > 0 && r.Dev.Step < lastStep {
			continue // no call is made: one script more or less tells nothing
		}
		for _, whence := range whences {
			for off := -impl.MaxData - 1; off <= impl.MaxData+1; off++ {
				next, ok := impl.SeekReader(r, off, whence)
				if want, wantOk := seekWant(r, off, whence); ok != wantOk || !sameReader(next, want) {
					t.Fatalf("SeekReader(%v, %d, %d) = %v, %v, not %v", r, off, whence, next, ok, want)
				}
				if !ok {
					continue
				}
				place := impl.TellReader(next)
				if !slices.Equal(aheadOf(next), r.Dev.Data[min(place, len(r.Dev.Data)):]) {
					t.Fatalf("ahead of SeekReader(%v, %d, %d) is %v", r, off, whence, aheadOf(next))
				}
				if place >= impl.TellReader(r) && place <= r.Dev.At && next.Dev.At != r.Dev.At {
					t.Fatalf("SeekReader(%v, %d, %d) = %v: the device went", r, off, whence, next)
				}
			}
		}
	}
}

func TestSeekReaderPlaces(t *testing.T) {
	r := readAhead(atPlace(counted(20), 8, 1000, -1), 3, 4) // at 5, with 5 to 7 read ahead
	for _, c := range []struct{ off, whence, place, buf int }{
		{5, impl.SkStart, 5, 3}, {6, impl.SkStart, 6, 2}, {7, impl.SkStart, 7, 1}, {8, impl.SkStart, 8, 0}, {9, impl.SkStart, 9, 0},
		{4, impl.SkStart, 4, 0}, {0, impl.SkStart, 0, 0}, {60, impl.SkStart, 60, 0}, {-1, impl.SkStart, -1, 0}, {61, impl.SkStart, -1, 0},
		{0, impl.SkNow, 5, 3}, {2, impl.SkNow, 7, 1}, {3, impl.SkNow, 8, 0}, {4, impl.SkNow, 9, 0}, {-1, impl.SkNow, 4, 0},
		{-5, impl.SkNow, 0, 0}, {55, impl.SkNow, 60, 0}, {-6, impl.SkNow, -1, 0}, {56, impl.SkNow, -1, 0},
		{-15, impl.SkEnd, 5, 3}, {-13, impl.SkEnd, 7, 1}, {-16, impl.SkEnd, 4, 0}, {0, impl.SkEnd, 20, 0},
		{40, impl.SkEnd, 60, 0}, {-20, impl.SkEnd, 0, 0}, {-21, impl.SkEnd, -1, 0}, {41, impl.SkEnd, -1, 0},
	} {
		next, ok := impl.SeekReader(r, c.off, c.whence)
		if c.place < 0 {
			if ok || !isZeroReader(next) {
				t.Errorf("SeekReader(%d, %d) = %v, %v", c.off, c.whence, next, ok)
			}
			continue
		}
		want := impl.Reader{Dev: atPlace(counted(20), c.place+c.buf, 1000, -1), Buf: counted(60)[c.place : c.place+c.buf], Size: 4}
		if !ok || !sameReader(next, want) {
			t.Errorf("SeekReader(%d, %d) = %v, %v", c.off, c.whence, next, ok)
		}
	}
}

func TestSeekReaderWrong(t *testing.T) {
	good := readAhead(atPlace(counted(60), 60, 0), 2, 4)
	check := func(r impl.Reader, off, whence int) {
		t.Helper()
		if next, ok := impl.SeekReader(r, off, whence); ok || !isZeroReader(next) {
			t.Errorf("SeekReader(%v, %d, %d) = %v, %v", r, off, whence, next, ok)
		}
	}
	for _, whence := range append([]int{-1, 3}, huge...) {
		check(good, 0, whence)
	}
	for _, whence := range whences {
		for _, off := range append([]int{-61, 61}, huge...) {
			check(good, off, whence)
		}
		for _, r := range wrongReaders() {
			check(r, 0, whence)
		}
	}
}

// Promise 24: SeekReader back after ReadFull has ahead what was ahead.
func TestPromise24BackIsWhereItWas(t *testing.T) {
	for _, r := range someReaders() {
		for _, n := range append([]int{0}, countsOfReaders...) {
			next, list, _ := impl.ReadFull(r, n)
			back, ok := impl.SeekReader(next, -len(list), impl.SkNow)
			again, ok2 := impl.SeekReader(next, impl.TellReader(r), impl.SkStart)
			if !ok || !ok2 || !sameReader(back, again) || !slices.Equal(aheadOf(back), aheadOf(r)) || impl.TellReader(back) != impl.TellReader(r) {
				t.Fatalf("back after ReadFull(%v, %d) is %v", r, n, back)
			}
		}
	}
}

// Promise 25: all lines of ReadLines, one behind the other, are what ReadRest
// gives, and all but the last one end with b.
func TestPromise25LinesTogetherAreTheRest(t *testing.T) {
	for _, r := range someReaders() {
		for _, b := range []int{10, 1, 0, 255, 50} {
			next, lines, st := impl.ReadLines(r, b)
			rest, all, restSt := impl.ReadRest(r)
			if !slices.Equal(joined(lines...), all) || st != restSt || !sameReader(next, rest) {
				t.Fatalf("ReadLines(%v, %d) = %v, %v, %d, but ReadRest %v", r, b, next, lines, st, all)
			}
			for i, line := range lines {
				at := slices.Index(line, b)
				if len(line) == 0 || at >= 0 && at < len(line)-1 || at < 0 && i < len(lines)-1 {
					t.Fatalf("ReadLines(%v, %d) has the lines %v", r, b, lines)
				}
			}
		}
	}
}

func TestReadLinesByScript(t *testing.T) {
	data := []int{10, 1, 2, 10, 10, 3}
	for _, c := range []struct {
		data, script []int
		lines        [][]int
		st           int
		step         int
	}{
		{data, nil, [][]int{{10}, {1, 2, 10}, {10}, {3}}, impl.StEnd, 3},
		{data[:5], nil, [][]int{{10}, {1, 2, 10}, {10}}, impl.StEnd, 3},
		{data, []int{2, 0}, [][]int{{10}, {1}}, impl.StNone, 2},
		{data, []int{1, 4, -1}, [][]int{{10}, {1, 2, 10}, {10}}, impl.StFault, 3},
		{data, []int{-1}, nil, impl.StFault, 1},
		{nil, nil, nil, impl.StEnd, 1},
		{data[1:3], nil, [][]int{{1, 2}}, impl.StEnd, 2},
		{zeros(60), nil, [][]int{zeros(60)}, impl.StEnd, 16},
	} {
		next, lines, st := impl.ReadLines(newReader(c.data, 4, c.script...), 10)
		if !sameLists(lines, c.lines) || st != c.st || next.Dev.Step != c.step || len(next.Buf) != 0 {
			t.Errorf("ReadLines of %v with %v = %v, %v, %d", c.data, c.script, next, lines, st)
		}
	}
}

// A reader at Step MaxCalls-MaxMore makes all the calls that an operation
// needs: Step is asked where it begins alone.
func TestReadersAtTheirLastStep(t *testing.T) {
	r := newReader(counted(60), 1)
	r.Dev.Step = lastStep
	if next, list, st := impl.ReadFull(r, 60); !slices.Equal(list, counted(60)) || st != impl.StOk || next.Dev.Step != lastStep+60 {
		t.Errorf("ReadFull = %v, %v, %d", next, list, st)
	}
	if next, list, st := impl.ReadRest(r); !slices.Equal(list, counted(60)) || st != impl.StEnd || next.Dev.Step != lastStep+61 {
		t.Errorf("ReadRest = %v, %v, %d", next, list, st)
	}
	if next, list, st := impl.ReadUntil(r, 0, 60); !slices.Equal(list, counted(60)) || st != impl.StOk || next.Dev.Step != lastStep+60 {
		t.Errorf("ReadUntil = %v, %v, %d", next, list, st)
	}
	if next, lines, st := impl.ReadLines(r, 0); !sameLists(lines, [][]int{counted(60)}) || st != impl.StEnd || next.Dev.Step != lastStep+61 {
		t.Errorf("ReadLines = %v, %v, %d", next, lines, st)
	}
	if next, list, st := impl.ReadSome(r, 60); !slices.Equal(list, counted(1)) || st != impl.StOk || next.Dev.Step != lastStep+1 {
		t.Errorf("ReadSome = %v, %v, %d", next, list, st)
	}
	if next, list, st := impl.PeekReader(r, 60); !slices.Equal(list, counted(1)) || st != impl.StOk || next.Dev.Step != lastStep+1 {
		t.Errorf("PeekReader = %v, %v, %d", next, list, st)
	}
}

// wrongRead checks that a function that reads bytes says that its arguments are wrong.
func wrongRead(t *testing.T, what string, next impl.Reader, list []int, st int) {
	t.Helper()
	if !isZeroReader(next) || len(list) != 0 || st != impl.StWrong {
		t.Errorf("%s = %v, %v, %d", what, next, list, st)
	}
}

// wrongReader checks that each function that makes calls says that the reader is wrong.
func wrongReader(t *testing.T, r impl.Reader) {
	t.Helper()
	for _, n := range []int{0, 1, 60} {
		next, list, st := impl.ReadFull(r, n)
		wrongRead(t, "ReadFull", next, list, st)
		next, list, st = impl.ReadUntil(r, 10, n)
		wrongRead(t, "ReadUntil", next, list, st)
	}
	for _, n := range []int{1, 60} {
		next, list, st := impl.ReadSome(r, n)
		wrongRead(t, "ReadSome", next, list, st)
		next, list, st = impl.PeekReader(r, n)
		wrongRead(t, "PeekReader", next, list, st)
	}
	next, list, st := impl.ReadRest(r)
	wrongRead(t, "ReadRest", next, list, st)
	next, lines, st := impl.ReadLines(r, 10)
	wrongRead(t, "ReadLines", next, joined(lines...), st)
}

func TestReadersWrong(t *testing.T) {
	for _, r := range wrongReaders() {
		wrongReader(t, r)
	}
	// One step too many, also where no call would be needed.
	for _, step := range []int{lastStep + 1, 999, 1000} {
		for _, k := range []int{0, 3} {
			wrongReader(t, readAhead(atPlace(lined(24), 8, step), k, 4))
		}
		wrongReader(t, impl.Reader{Dev: atPlace(nil, 0, step, -1), Size: 1})
	}
}

func TestReadersWrongNumbers(t *testing.T) {
	for _, k := range []int{0, 3} {
		r := readAhead(atPlace(lined(24), 8, 0, 2, 0), k, 4)
		for _, n := range append([]int{0, -1, 61}, huge...) {
			next, list, st := impl.ReadSome(r, n)
			wrongRead(t, "ReadSome", next, list, st)
			next, list, st = impl.PeekReader(r, n)
			wrongRead(t, "PeekReader", next, list, st)
		}
		for _, n := range append([]int{-1, 61}, huge...) {
			next, list, st := impl.ReadFull(r, n)
			wrongRead(t, "ReadFull", next, list, st)
			next, list, st = impl.ReadUntil(r, 10, n)
			wrongRead(t, "ReadUntil", next, list, st)
		}
		for _, b := range append([]int{-1, 256}, huge...) {
			for _, limit := range []int{0, 60} {
				next, list, st := impl.ReadUntil(r, b, limit)
				wrongRead(t, "ReadUntil", next, list, st)
			}
			next, lines, st := impl.ReadLines(r, b)
			wrongRead(t, "ReadLines", next, joined(lines...), st)
		}
	}
}

// readerCalls are the functions that return readers, and with which lists they do.
func readerCalls() map[string]func(r impl.Reader) (impl.Reader, [][]int) {
	one := func(next impl.Reader, list []int, st int) (impl.Reader, [][]int) {
		return next, [][]int{list}
	}
	none := func(next impl.Reader, ok bool) (impl.Reader, [][]int) {
		return next, nil
	}
	return map[string]func(r impl.Reader) (impl.Reader, [][]int){
		"NewReader":  func(r impl.Reader) (impl.Reader, [][]int) { return none(impl.NewReader(r.Dev, r.Size)) },
		"ReadSome":   func(r impl.Reader) (impl.Reader, [][]int) { return one(impl.ReadSome(r, 2)) },
		"ReadFull":   func(r impl.Reader) (impl.Reader, [][]int) { return one(impl.ReadFull(r, 2)) },
		"ReadFull 0": func(r impl.Reader) (impl.Reader, [][]int) { return one(impl.ReadFull(r, 0)) },
		"ReadFull 7": func(r impl.Reader) (impl.Reader, [][]int) { return one(impl.ReadFull(r, 7)) },
		"ReadRest":   func(r impl.Reader) (impl.Reader, [][]int) { return one(impl.ReadRest(r)) },
		"PeekReader": func(r impl.Reader) (impl.Reader, [][]int) { return one(impl.PeekReader(r, 2)) },
		"ReadUntil":  func(r impl.Reader) (impl.Reader, [][]int) { return one(impl.ReadUntil(r, 10, 60)) },
		"SeekReader": func(r impl.Reader) (impl.Reader, [][]int) { return none(impl.SeekReader(r, 1, impl.SkNow)) },
		"SeekReader to the end": func(r impl.Reader) (impl.Reader, [][]int) {
			return none(impl.SeekReader(r, 0, impl.SkEnd))
		},
		"ReadLines": func(r impl.Reader) (impl.Reader, [][]int) {
			next, lines, _ := impl.ReadLines(r, 10)
			return next, lines
		},
	}
}

// No function changes its arguments, no result shares memory with an argument,
// and no two slices of a result share memory.
func TestReaderResultsAreNew(t *testing.T) {
	for name, call := range readerCalls() {
		for _, script := range [][]int{{2, 5, 3, 60}, {2, 4, 0}, {2, 0}, {2, -1}} {
			for _, k := range []int{0, 1, 3, 4} {
				data, script, buf := roomy(lined(12)), roomy(script), roomy(lined(12)[4-k:4])
				r := impl.Reader{Dev: impl.Device{Data: data, At: 4, Script: script, Step: 1}, Buf: buf, Size: 5}
				before := impl.Reader{Dev: cloned(r.Dev), Buf: slices.Clone(buf), Size: 5}
				next, lists := call(r)
				impl.ValidReader(r)
				impl.TellReader(r)
				if !intact(data, before.Dev.Data) || !intact(script, before.Dev.Script) || !intact(buf, before.Buf) {
					t.Errorf("%s: an argument was changed", name)
				}
				checkApart(t, name, append([][]int{data, script, buf, next.Dev.Data, next.Dev.Script, next.Buf}, lists...)...)
			}
		}
	}
}
