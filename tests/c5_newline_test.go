package tests

import (
	"slices"
	"testing"

	"loop.example/streamlayers/impl"
)

// endsSeen are all that Seen may be.
var endsSeen = []int{0, 1, 2, 3, 4, 5, 6, 7}

// marks are the line ends that NewlineOut writes.
var marks = []int{impl.NlReturn, impl.NlLine, impl.NlBoth}

// times returns a list n times, one behind the other.
func times(n int, list ...int) []int {
	return slices.Repeat(list, n)
}

// shortLists returns all lists of at most most numbers, each one of some.
func shortLists(most int, some ...int) [][]int {
	out := [][]int{nil}
	for from := 0; most > 0; most-- {
		upTo := len(out)
		for _, list := range out[from:upTo] {
			for _, n := range some {
				out = append(out, joined(list, []int{n}))
			}
		}
		from = upTo
	}
	return out
}

// longLists returns lists of MaxData bytes and of one less, with line ends of
// all kinds, at both ends and in between.
func longLists() [][]int {
	return [][]int{
		times(60, 13), times(60, 10), times(30, 13, 10), times(30, 10, 13), times(20, 13, 13, 10), times(20, 13, 10, 10), times(60, 0),
		times(59, 13), joined(times(59, 10), []int{13}), joined([]int{13}, times(59, 255)), joined([]int{10}, times(58, 10), []int{13}),
		joined(taken(59), []int{13}), joined(taken(58), []int{13, 10}), joined([]int{13}, taken(57), []int{10, 13}), taken(60), taken(59), counted(60),
	}
}

// endedLists returns lists of bytes with line ends of all kinds.
func endedLists() [][]int {
	return append(shortLists(5, 10, 13, 0, 255), longLists()...)
}

// someNls returns all states of newlines.
func someNls() []impl.Nl {
	var out []impl.Nl
	for _, seen := range endsSeen {
		out = append(out, impl.Nl{Seen: seen}, impl.Nl{Held: true, Seen: seen})
	}
	return out
}

// wrongNls returns states of newlines that are none.
func wrongNls() []impl.Nl {
	var out []impl.Nl
	for _, seen := range append([]int{-1, -8, 8, 9, 15, 16}, huge...) {
		out = append(out, impl.Nl{Seen: seen}, impl.Nl{Held: true, Seen: seen})
	}
	return out
}

// nlModel is a state of newlines that takes byte by byte, and what it has told.
type nlModel struct {
	impl.Nl
	out []int
}

// meet tells a line end.
func (m *nlModel) meet(kind int) {
	m.Seen |= kind
	m.out = append(m.out, 10)
}

// put takes a byte. A 13 that waits is settled by it.
func (m *nlModel) put(b int) {
	waited := m.Held
	m.Held = b == 13
	if waited && b == 10 {
		m.meet(impl.NlBoth)
		return
	}
	if waited {
		m.meet(impl.NlReturn)
	}
	if b == 10 {
		m.meet(impl.NlLine)
	} else if b != 13 {
		m.out = append(m.out, b)
	}
}

// nlByBytes returns what NewlineIn must, byte by byte.
func nlByBytes(s impl.Nl, list []int, final bool) (impl.Nl, []int) {
	m := nlModel{Nl: s}
	for _, b := range list {
		m.put(b)
	}
	if m.Held && final {
		m.Held = false
		m.meet(impl.NlReturn)
	}
	return m.Nl, m.out
}

// isEndAt reports whether a line end of a list ends with the byte with the
// index: with a 10, or with a 13 that has no 10 right behind it.
func isEndAt(list []int, i int) bool {
	return list[i] == 10 || list[i] == 13 && (i+1 == len(list) || list[i+1] != 10)
}

// endsOf returns how many line ends a list has.
func endsOf(list []int) int {
	n := 0
	for i := range list {
		if isEndAt(list, i) {
			n++
		}
	}
	return n
}

// linesKept returns the lines of a list with their line ends.
func linesKept(list []int) [][]int {
	var out [][]int
	start := 0
	for i := range list {
		if isEndAt(list, i) || i+1 == len(list) {
			out = append(out, list[start:i+1])
			start = i + 1
		}
	}
	return out
}

// linesBare returns the lines of a list without their line ends.
func linesBare(list []int) [][]int {
	var out [][]int
	for _, line := range linesKept(list) {
		for len(line) > 0 && isReturnOrLine(line[len(line)-1]) {
			line = line[:len(line)-1]
		}
		out = append(out, line)
	}
	return out
}

// isReturnOrLine reports whether a byte is one of a line end.
func isReturnOrLine(b int) bool {
	return b == 10 || b == 13
}

// countOf returns how many numbers of a list are n.
func countOf(list []int, n int) int {
	count := 0
	for _, m := range list {
		if m == n {
			count++
		}
	}
	return count
}

// checkIn checks what NewlineIn returns.
func checkIn(t *testing.T, s impl.Nl, list []int, final bool, want impl.Nl, wantList []int) {
	t.Helper()
	next, out := impl.NewlineIn(s, list, final)
	if next != want || !slices.Equal(out, wantList) {
		t.Errorf("NewlineIn(%v, %v, %v) = %v, %v, not %v, %v", s, list, final, next, out, want, wantList)
	}
}

func TestConstantsOfNewlines(t *testing.T) {
	if impl.NlReturn != 1 || impl.NlLine != 2 || impl.NlBoth != 4 {
		t.Errorf("the constants are %d, %d, %d", impl.NlReturn, impl.NlLine, impl.NlBoth)
	}
}

func TestNewlineInAsByteByByte(t *testing.T) {
	for _, s := range someNls() {
		for _, list := range endedLists() {
			for _, final := range []bool{false, true} {
				want, wantList := nlByBytes(s, list, final)
				checkIn(t, s, list, final, want, wantList)
			}
		}
	}
}

// Promise 50: NewlineIn of the first bytes and then of the others gives what
// NewlineIn of all gives, and the same state.
func TestPromise50BytesCanComeInParts(t *testing.T) {
	for _, s := range someNls() {
		for _, list := range endedLists() {
			for _, final := range []bool{false, true} {
				want, wantList := impl.NewlineIn(s, list, final)
				for i := range len(list) + 1 {
					mid, first := impl.NewlineIn(s, list[:i], false)
					next, other := impl.NewlineIn(mid, list[i:], final)
					if next != want || !slices.Equal(joined(first, other), wantList) {
						t.Fatalf("NewlineIn(%v, %v and %v, %v) = %v, %v and %v, not %v, %v", s, list[:i], list[i:], final, next, first, other, want, wantList)
					}
				}
			}
		}
	}
}

// A 13 and a 10 that come in two parts are one line end, also with an empty part between them.
func TestNewlineInTwoParts(t *testing.T) {
	s, out := impl.NewlineIn(impl.Nl{}, []int{1, 13}, false)
	if want := (impl.Nl{Held: true}); s != want || !slices.Equal(out, []int{1}) {
		t.Fatalf("NewlineIn = %v, %v", s, out)
	}
	checkIn(t, s, nil, false, impl.Nl{Held: true}, nil)
	checkIn(t, s, []int{10, 2}, false, impl.Nl{Seen: impl.NlBoth}, []int{10, 2})
	checkIn(t, s, []int{10}, true, impl.Nl{Seen: impl.NlBoth}, []int{10})
	// Told as the last byte, the 13 is a line end, and the 10 is another one.
	s, out = impl.NewlineIn(impl.Nl{}, []int{1, 13}, true)
	if want := (impl.Nl{Seen: impl.NlReturn}); s != want || !slices.Equal(out, []int{1, 10}) {
		t.Fatalf("NewlineIn = %v, %v", s, out)
	}
	checkIn(t, s, []int{10, 2}, false, impl.Nl{Seen: impl.NlReturn + impl.NlLine}, []int{10, 2})
}

// nlCase is a call of NewlineIn: the state, the bytes, and what is returned
// without final and with it.
type nlCase struct {
	s         impl.Nl
	list      []int
	next      impl.Nl
	out       []int
	final     impl.Nl
	finalList []int
}

// checkCases checks calls of NewlineIn.
func checkCases(t *testing.T, cases []nlCase) {
	t.Helper()
	for _, c := range cases {
		checkIn(t, c.s, c.list, false, c.next, c.out)
		checkIn(t, c.s, c.list, true, c.final, c.finalList)
	}
}

// A 13 that is held waits for a byte behind it, of whatever kind.
func TestNewlineInHeld(t *testing.T) {
	held := impl.Nl{Held: true}
	checkCases(t, []nlCase{
		{held, nil, held, nil, impl.Nl{Seen: 1}, []int{10}},
		{held, []int{}, held, nil, impl.Nl{Seen: 1}, []int{10}},
		{held, []int{10}, impl.Nl{Seen: 4}, []int{10}, impl.Nl{Seen: 4}, []int{10}},
		{held, []int{13}, impl.Nl{Held: true, Seen: 1}, []int{10}, impl.Nl{Seen: 1}, []int{10, 10}},
		{held, []int{65}, impl.Nl{Seen: 1}, []int{10, 65}, impl.Nl{Seen: 1}, []int{10, 65}},
		{held, []int{0}, impl.Nl{Seen: 1}, []int{10, 0}, impl.Nl{Seen: 1}, []int{10, 0}},
		{held, []int{255}, impl.Nl{Seen: 1}, []int{10, 255}, impl.Nl{Seen: 1}, []int{10, 255}},
		{held, []int{10, 10}, impl.Nl{Seen: 6}, []int{10, 10}, impl.Nl{Seen: 6}, []int{10, 10}},
		{held, []int{10, 13}, impl.Nl{Held: true, Seen: 4}, []int{10}, impl.Nl{Seen: 5}, []int{10, 10}},
		{held, []int{13, 10}, impl.Nl{Seen: 5}, []int{10, 10}, impl.Nl{Seen: 5}, []int{10, 10}},
		{held, []int{65, 13}, impl.Nl{Held: true, Seen: 1}, []int{10, 65}, impl.Nl{Seen: 1}, []int{10, 65, 10}},
		{held, []int{65, 10}, impl.Nl{Seen: 3}, []int{10, 65, 10}, impl.Nl{Seen: 3}, []int{10, 65, 10}},
	})
}

// A 13 as the last byte waits, and a 10 does not; without bytes nothing changes.
func TestNewlineInLastByte(t *testing.T) {
	none, held := impl.Nl{}, impl.Nl{Held: true}
	checkCases(t, []nlCase{
		{none, nil, none, nil, none, nil},
		{none, []int{}, none, nil, none, nil},
		{none, []int{13}, held, nil, impl.Nl{Seen: 1}, []int{10}},
		{none, []int{65, 13}, held, []int{65}, impl.Nl{Seen: 1}, []int{65, 10}},
		{none, []int{10}, impl.Nl{Seen: 2}, []int{10}, impl.Nl{Seen: 2}, []int{10}},
		{none, []int{10, 13}, impl.Nl{Held: true, Seen: 2}, []int{10}, impl.Nl{Seen: 3}, []int{10, 10}},
		{none, []int{13, 10}, impl.Nl{Seen: 4}, []int{10}, impl.Nl{Seen: 4}, []int{10}},
		{none, []int{13, 65}, impl.Nl{Seen: 1}, []int{10, 65}, impl.Nl{Seen: 1}, []int{10, 65}},
		{none, []int{0, 255, 9, 11, 12, 14}, none, []int{0, 255, 9, 11, 12, 14}, none, []int{0, 255, 9, 11, 12, 14}},
	})
}

// Line ends right behind one another are told one by one.
func TestNewlineInSeveral(t *testing.T) {
	checkCases(t, []nlCase{
		{impl.Nl{}, []int{13, 13, 13}, impl.Nl{Held: true, Seen: 1}, []int{10, 10}, impl.Nl{Seen: 1}, []int{10, 10, 10}},
		{impl.Nl{}, []int{10, 10, 10}, impl.Nl{Seen: 2}, []int{10, 10, 10}, impl.Nl{Seen: 2}, []int{10, 10, 10}},
		{impl.Nl{}, []int{13, 10, 13, 10}, impl.Nl{Seen: 4}, []int{10, 10}, impl.Nl{Seen: 4}, []int{10, 10}},
		{impl.Nl{}, []int{13, 13, 10}, impl.Nl{Seen: 5}, []int{10, 10}, impl.Nl{Seen: 5}, []int{10, 10}},
		{impl.Nl{}, []int{13, 10, 10}, impl.Nl{Seen: 6}, []int{10, 10}, impl.Nl{Seen: 6}, []int{10, 10}},
		{impl.Nl{}, []int{10, 13, 10}, impl.Nl{Seen: 6}, []int{10, 10}, impl.Nl{Seen: 6}, []int{10, 10}},
		{impl.Nl{}, []int{1, 13, 2, 10, 3, 13, 10, 4}, impl.Nl{Seen: 7}, []int{1, 10, 2, 10, 3, 10, 4}, impl.Nl{Seen: 7}, []int{1, 10, 2, 10, 3, 10, 4}},
	})
}

// What was met before stays in Seen, once.
func TestNewlineInSeen(t *testing.T) {
	for _, seen := range endsSeen {
		s := impl.Nl{Seen: seen}
		checkCases(t, []nlCase{
			{s, nil, s, nil, s, nil},
			{s, []int{65}, s, []int{65}, s, []int{65}},
			{s, []int{13}, impl.Nl{Held: true, Seen: seen}, nil, impl.Nl{Seen: seen | 1}, []int{10}},
			{s, []int{13, 65}, impl.Nl{Seen: seen | 1}, []int{10, 65}, impl.Nl{Seen: seen | 1}, []int{10, 65}},
			{s, []int{10}, impl.Nl{Seen: seen | 2}, []int{10}, impl.Nl{Seen: seen | 2}, []int{10}},
			{s, []int{13, 10}, impl.Nl{Seen: seen | 4}, []int{10}, impl.Nl{Seen: seen | 4}, []int{10}},
			{impl.Nl{Held: true, Seen: seen}, nil, impl.Nl{Held: true, Seen: seen}, nil, impl.Nl{Seen: seen | 1}, []int{10}},
			{impl.Nl{Held: true, Seen: seen}, []int{10}, impl.Nl{Seen: seen | 4}, []int{10}, impl.Nl{Seen: seen | 4}, []int{10}},
		})
	}
}

// MaxData bytes may come behind a 13 that is held, and give one more.
func TestNewlineInLongest(t *testing.T) {
	held := impl.Nl{Held: true}
	one := impl.Nl{Seen: 1}
	checkCases(t, []nlCase{
		{held, times(60, 65), one, joined([]int{10}, times(60, 65)), one, joined([]int{10}, times(60, 65))},
		{held, times(60, 13), impl.Nl{Held: true, Seen: 1}, times(60, 10), one, times(61, 10)},
		{held, times(60, 10), impl.Nl{Seen: 6}, times(60, 10), impl.Nl{Seen: 6}, times(60, 10)},
		{held, times(30, 10, 13), impl.Nl{Held: true, Seen: 4}, times(30, 10), impl.Nl{Seen: 5}, times(31, 10)},
		{held, joined(times(59, 65), []int{13}), impl.Nl{Held: true, Seen: 1}, joined([]int{10}, times(59, 65)), one, joined([]int{10}, times(59, 65), []int{10})},
		{impl.Nl{}, joined(times(59, 0), []int{13}), held, times(59, 0), one, joined(times(59, 0), []int{10})},
	})
}

// Promise 51: NewlineIn gives no 13, holds none at the end, and with final as
// many 10 as there are line ends.
func TestPromise51AllLineEndsAreOne(t *testing.T) {
	for _, s := range someNls() {
		for _, list := range endedLists() {
			whole := list
			if s.Held {
				whole = joined([]int{13}, list)
			}
			next, out := impl.NewlineIn(s, list, true)
			if countOf(out, 13) > 0 || next.Held || countOf(out, 10) != endsOf(whole) {
				t.Fatalf("NewlineIn(%v, %v, true) = %v, %v", s, list, next, out)
			}
			// Without final just a 13 that is the last byte waits.
			waits := len(whole) > 0 && whole[len(whole)-1] == 13
			next, out = impl.NewlineIn(s, list, false)
			if countOf(out, 13) > 0 || next.Held != waits {
				t.Fatalf("NewlineIn(%v, %v, false) = %v, %v", s, list, next, out)
			}
			if waits {
				out = append(out, 10)
			}
			if countOf(out, 10) != endsOf(whole) {
				t.Fatalf("NewlineIn(%v, %v, false) = %v, %v", s, list, next, out)
			}
		}
	}
}

// Promise 52: NewlineIn of NewlineOut is the bytes, if they have no 13, and are
// not too many then.
func TestPromise52LineEndsComeBack(t *testing.T) {
	// With two bytes for each 10 the last three lists are too long, and the three ahead of them have just MaxData.
	lists := append(shortLists(6, 10, 0, 255), times(60, 65), times(30, 10), times(20, 10, 65), joined(counted(58), []int{10}),
		times(60, 10), times(31, 10), joined(counted(59), []int{10}))
	back := 0
	for _, list := range lists {
		for _, mark := range marks {
			written := impl.NewlineOut(list, mark)
			if countOf(list, 13) > 0 || len(written) > impl.MaxData {
				continue
			}
			next, out := impl.NewlineIn(impl.Nl{}, written, true)
			if !slices.Equal(out, list) {
				t.Fatalf("NewlineIn of NewlineOut(%v, %d), which is %v, is %v", list, mark, written, out)
			}
			want := impl.Nl{}
			if countOf(list, 10) > 0 {
				want.Seen = mark
			}
			if next != want {
				t.Fatalf("NewlineIn of NewlineOut(%v, %d), which is %v, leaves %v", list, mark, written, next)
			}
			back++
		}
	}
	if back != 3*len(lists)-3 {
		t.Errorf("%d came back", back)
	}
}

func TestNewlineOut(t *testing.T) {
	for _, c := range []struct {
		list  []int
		alone []int
		both  []int
	}{
		{nil, nil, nil},
		{[]int{}, nil, nil},
		{[]int{10}, []int{13}, []int{13, 10}},
		{[]int{65}, []int{65}, []int{65}},
		{[]int{0, 10, 255}, []int{0, 13, 255}, []int{0, 13, 10, 255}},
		{[]int{10, 10, 65, 10}, []int{13, 13, 65, 13}, []int{13, 10, 13, 10, 65, 13, 10}},
		// A 13 that is there already stays.
		{[]int{13}, []int{13}, []int{13}},
		{[]int{13, 10}, []int{13, 13}, []int{13, 13, 10}},
		{[]int{10, 13, 13}, []int{13, 13, 13}, []int{13, 10, 13, 13}},
		{times(60, 10), times(60, 13), times(60, 13, 10)},
		{times(60, 13), times(60, 13), times(60, 13)},
		{counted(60), counted(60), counted(60)},
		{joined(counted(59), []int{10}), joined(counted(59), []int{13}), joined(counted(59), []int{13, 10})},
	} {
		for mark, want := range map[int][]int{impl.NlLine: c.list, impl.NlReturn: c.alone, impl.NlBoth: c.both} {
			if out := impl.NewlineOut(c.list, mark); !slices.Equal(out, want) {
				t.Errorf("NewlineOut(%v, %d) = %v, not %v", c.list, mark, out, want)
			}
		}
	}
}

// Promise 53: the lines of SplitLines with keep, one behind the other, are the
// bytes, and without keep none has a line end.
func TestPromise53LinesAreAllOfTheBytes(t *testing.T) {
	for _, list := range endedLists() {
		kept := impl.SplitLines(list, true)
		if !slices.Equal(joined(kept...), list) || !sameLists(kept, linesKept(list)) {
			t.Fatalf("SplitLines(%v, true) = %v", list, kept)
		}
		bare := impl.SplitLines(list, false)
		if slices.ContainsFunc(joined(bare...), isReturnOrLine) || !sameLists(bare, linesBare(list)) {
			t.Fatalf("SplitLines(%v, false) = %v", list, bare)
		}
	}
}

func TestSplitLines(t *testing.T) {
	for _, c := range []struct {
		list []int
		kept [][]int
		bare [][]int
	}{
		{nil, nil, nil},
		{[]int{}, nil, nil},
		// No line end at all, and the bytes that are none.
		{[]int{65}, [][]int{{65}}, [][]int{{65}}},
		{[]int{0, 255, 11, 12}, [][]int{{0, 255, 11, 12}}, [][]int{{0, 255, 11, 12}}},
		// Nothing behind the last line end is no line, and something is.
		{[]int{65, 10}, [][]int{{65, 10}}, [][]int{{65}}},
		{[]int{65, 13}, [][]int{{65, 13}}, [][]int{{65}}},
		{[]int{65, 13, 10}, [][]int{{65, 13, 10}}, [][]int{{65}}},
		{[]int{65, 13, 10, 0}, [][]int{{65, 13, 10}, {0}}, [][]int{{65}, {0}}},
		// Empty lines: alone, at the beginning, in the middle and at the end.
		{[]int{10}, [][]int{{10}}, [][]int{nil}},
		{[]int{13}, [][]int{{13}}, [][]int{nil}},
		{[]int{13, 10}, [][]int{{13, 10}}, [][]int{nil}},
		{[]int{13, 13, 13}, [][]int{{13}, {13}, {13}}, [][]int{nil, nil, nil}},
		{[]int{10, 10, 10}, [][]int{{10}, {10}, {10}}, [][]int{nil, nil, nil}},
		{[]int{13, 10, 13, 10}, [][]int{{13, 10}, {13, 10}}, [][]int{nil, nil}},
		{[]int{10, 13}, [][]int{{10}, {13}}, [][]int{nil, nil}},
		{[]int{13, 65}, [][]int{{13}, {65}}, [][]int{nil, {65}}},
		{[]int{10, 65, 13, 10, 13, 10, 66, 13, 13}, [][]int{{10}, {65, 13, 10}, {13, 10}, {66, 13}, {13}}, [][]int{nil, {65}, nil, {66}, nil}},
		{[]int{1, 2, 10, 13, 3, 10, 10}, [][]int{{1, 2, 10}, {13}, {3, 10}, {10}}, [][]int{{1, 2}, nil, {3}, nil}},
		{times(60, 65), [][]int{times(60, 65)}, [][]int{times(60, 65)}},
		{joined(times(59, 65), []int{13}), [][]int{joined(times(59, 65), []int{13})}, [][]int{times(59, 65)}},
	} {
		if kept := impl.SplitLines(c.list, true); !sameLists(kept, c.kept) {
			t.Errorf("SplitLines(%v, true) = %v, not %v", c.list, kept, c.kept)
		}
		if bare := impl.SplitLines(c.list, false); !sameLists(bare, c.bare) {
			t.Errorf("SplitLines(%v, false) = %v, not %v", c.list, bare, c.bare)
		}
	}
	for _, keep := range []bool{false, true} {
		if lines := impl.SplitLines(times(60, 10), keep); len(lines) != 60 {
			t.Errorf("SplitLines of 60 line ends = %v", lines)
		}
	}
}

// Promise 54: CountEnds is the number of 10 that NewlineIn gives, and no
// greater than that of bytes.
func TestPromise54LineEndsAreCountedOnce(t *testing.T) {
	for _, list := range endedLists() {
		n := impl.CountEnds(list)
		_, out := impl.NewlineIn(impl.Nl{}, list, true)
		if n != countOf(out, 10) || n > len(list) || n != endsOf(list) {
			t.Fatalf("CountEnds(%v) = %d", list, n)
		}
	}
}

// endsCase is a list of bytes, how many line ends it has, and which.
type endsCase struct {
	list []int
	n    int
	seen int
}

// endsCases returns lists of bytes with their line ends.
func endsCases() []endsCase {
	return []endsCase{
		{nil, 0, 0},
		{[]int{}, 0, 0},
		{[]int{65}, 0, 0},
		{[]int{0, 255, 9, 11, 12, 14}, 0, 0},
		{counted(60), 0, 0},
		{[]int{13}, 1, 1},
		{[]int{13, 65}, 1, 1},
		{[]int{65, 13}, 1, 1},
		{[]int{10}, 1, 2},
		{[]int{65, 10, 65}, 1, 2},
		{[]int{13, 10}, 1, 4},
		{[]int{65, 13, 10, 65}, 1, 4},
		{[]int{13, 13, 13}, 3, 1},
		{[]int{10, 10, 10}, 3, 2},
		{[]int{13, 10, 13, 10}, 2, 4},
		{[]int{10, 13}, 2, 3},
		{[]int{13, 13, 10}, 2, 5},
		{[]int{13, 10, 13}, 2, 5},
		{[]int{13, 10, 10}, 2, 6},
		{[]int{10, 13, 10}, 2, 6},
		{[]int{13, 65, 10, 65, 13, 10}, 3, 7},
		{[]int{13, 65, 10}, 2, 3},
		{times(60, 13), 60, 1},
		{times(60, 10), 60, 2},
		{times(30, 13, 10), 30, 4},
		{times(30, 10, 13), 31, 7},
		{joined(counted(59), []int{13}), 1, 1},
		{joined(counted(58), []int{13, 10}), 1, 4},
	}
}

func TestCountEnds(t *testing.T) {
	for _, c := range endsCases() {
		if n := impl.CountEnds(c.list); n != c.n {
			t.Errorf("CountEnds(%v) = %d, not %d", c.list, n, c.n)
		}
	}
}

// Promise 55: NlState of NlNumber is the state.
func TestPromise55StatesHaveNumbers(t *testing.T) {
	seen := map[int]impl.Nl{}
	for _, s := range someNls() {
		n := impl.NlNumber(s)
		if back, ok := impl.NlState(n); !ok || back != s {
			t.Errorf("NlState(NlNumber(%v)) = %v, %v", s, back, ok)
		}
		if other, ok := seen[n]; ok {
			t.Errorf("NlNumber of %v and of %v is %d", s, other, n)
		}
		seen[n] = s
	}
}

func TestNlNumber(t *testing.T) {
	for _, seen := range endsSeen {
		if n := impl.NlNumber(impl.Nl{Seen: seen}); n != 2*seen {
			t.Errorf("NlNumber with Seen %d = %d", seen, n)
		}
		if n := impl.NlNumber(impl.Nl{Held: true, Seen: seen}); n != 2*seen+1 {
			t.Errorf("NlNumber with Held and Seen %d = %d", seen, n)
		}
	}
	for _, s := range wrongNls() {
		if n := impl.NlNumber(s); n != -1 {
			t.Errorf("NlNumber(%v) = %d", s, n)
		}
	}
}

// Promise 56: NlNumber of NlState is the number.
func TestPromise56NumbersHaveStates(t *testing.T) {
	for n := range 16 {
		s, ok := impl.NlState(n)
		if !ok || impl.NlNumber(s) != n {
			t.Errorf("NlState(%d) = %v, %v", n, s, ok)
		}
	}
}

func TestNlState(t *testing.T) {
	for n, want := range map[int]impl.Nl{0: {}, 1: {Held: true}, 2: {Seen: 1}, 3: {Held: true, Seen: 1}, 4: {Seen: 2}, 9: {Held: true, Seen: 4}, 14: {Seen: 7}, 15: {Held: true, Seen: 7}} {
		if s, ok := impl.NlState(n); !ok || s != want {
			t.Errorf("NlState(%d) = %v, %v, not %v", n, s, ok, want)
		}
	}
	for _, n := range append([]int{-1, -2, -15, 16, 17, 31, 32}, huge...) {
		if s, ok := impl.NlState(n); ok || s != (impl.Nl{}) {
			t.Errorf("NlState(%d) = %v, %v", n, s, ok)
		}
	}
}

// Promise 57: EndsIn is 0 exactly if CountEnds is, and is Seen of NewlineIn.
func TestPromise57LineEndsThatAreMetAreThere(t *testing.T) {
	for _, list := range endedLists() {
		seen := impl.EndsIn(list)
		s, _ := impl.NewlineIn(impl.Nl{}, list, true)
		if (seen == 0) != (impl.CountEnds(list) == 0) || seen != s.Seen {
			t.Fatalf("EndsIn(%v) = %d", list, seen)
		}
	}
}

func TestEndsIn(t *testing.T) {
	for _, c := range endsCases() {
		if seen := impl.EndsIn(c.list); seen != c.seen {
			t.Errorf("EndsIn(%v) = %d, not %d", c.list, seen, c.seen)
		}
	}
}

// wrongIn checks that NewlineIn says that its arguments are wrong.
func wrongIn(t *testing.T, s impl.Nl, list []int) {
	t.Helper()
	for _, final := range []bool{false, true} {
		if next, out := impl.NewlineIn(s, list, final); next != (impl.Nl{}) || out != nil {
			t.Errorf("NewlineIn(%v, %v, %v) = %v, %v", s, list, final, next, out)
		}
	}
}

// wrongEnded returns lists that are no bytes, with line ends.
func wrongEnded() [][]int {
	return append(wrongLists(), times(61, 10), times(61, 13), joined(times(60, 65), []int{13}), []int{13, -1}, []int{256, 10}, []int{10, 13, 256})
}

func TestNewlinesWrongStates(t *testing.T) {
	for _, s := range wrongNls() {
		for _, list := range append(longLists(), shortLists(2, 10, 13, 65)...) {
			wrongIn(t, s, list)
		}
	}
}

func TestNewlinesWrongBytes(t *testing.T) {
	for _, list := range wrongEnded() {
		for _, s := range someNls() {
			wrongIn(t, s, list)
		}
		for _, mark := range marks {
			if out := impl.NewlineOut(list, mark); out != nil {
				t.Errorf("NewlineOut(%v, %d) = %v", list, mark, out)
			}
		}
		for _, keep := range []bool{false, true} {
			if lines := impl.SplitLines(list, keep); lines != nil {
				t.Errorf("SplitLines(%v, %v) = %v", list, keep, lines)
			}
		}
		if n := impl.CountEnds(list); n != -1 {
			t.Errorf("CountEnds(%v) = %d", list, n)
		}
		if n := impl.EndsIn(list); n != -1 {
			t.Errorf("EndsIn(%v) = %d", list, n)
		}
	}
}

// A mark is one line end: none, sums of marks and all else are wrong.
func TestNewlineOutWrongMarks(t *testing.T) {
	for _, mark := range append([]int{0, 3, 5, 6, 7, 8, 10, 13, -1, -2, -4}, huge...) {
		for _, list := range endedLists() {
			if out := impl.NewlineOut(list, mark); out != nil {
				t.Fatalf("NewlineOut(%v, %d) = %v", list, mark, out)
			}
		}
	}
}

// newlineCalls are the functions that return bytes.
func newlineCalls() map[string]func(list []int) [][]int {
	in := func(s impl.Nl, list []int, final bool) [][]int {
		_, out := impl.NewlineIn(s, list, final)
		return [][]int{out}
	}
	return map[string]func(list []int) [][]int{
		"NewlineIn":             func(list []int) [][]int { return in(impl.Nl{}, list, false) },
		"NewlineIn with final":  func(list []int) [][]int { return in(impl.Nl{}, list, true) },
		"NewlineIn with Held":   func(list []int) [][]int { return in(impl.Nl{Held: true, Seen: 3}, list, false) },
		"NewlineIn with both":   func(list []int) [][]int { return in(impl.Nl{Held: true}, list, true) },
		"NewlineOut of 13":      func(list []int) [][]int { return [][]int{impl.NewlineOut(list, impl.NlReturn)} },
		"NewlineOut of 10":      func(list []int) [][]int { return [][]int{impl.NewlineOut(list, impl.NlLine)} },
		"NewlineOut of both":    func(list []int) [][]int { return [][]int{impl.NewlineOut(list, impl.NlBoth)} },
		"SplitLines":            func(list []int) [][]int { return impl.SplitLines(list, false) },
		"SplitLines with keep":  func(list []int) [][]int { return impl.SplitLines(list, true) },
		"CountEnds and EndsIn":  func(list []int) [][]int { return [][]int{{impl.CountEnds(list)}, {impl.EndsIn(list)}} },
		"NewlineOut of nothing": func(list []int) [][]int { return [][]int{impl.NewlineOut(list[:0], impl.NlBoth)} },
	}
}

// No function changes its arguments, no result shares memory with an argument,
// and no two slices of a result share memory.
func TestNewlineResultsAreNew(t *testing.T) {
	lists := append(longLists(), shortLists(3, 10, 13, 65)...)
	lists = append(lists, []int{1, 2, 10, 3, 4, 13, 5, 13, 10, 6, 7}, []int{13, 13, 10, 10, 1, 2, 3}, taken(12))
	for name, call := range newlineCalls() {
		for _, list := range lists {
			given := roomy(list)
			got := call(given)
			if !intact(given, list) {
				t.Errorf("%s: an argument was changed", name)
			}
			checkApart(t, name, append([][]int{given}, got...)...)
		}
	}
}
