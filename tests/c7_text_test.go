package tests

import (
	"slices"
	"testing"

	"loop.example/streamlayers/impl"
)

// lastTextStep is the greatest Step with which a text may begin to read.
const lastTextStep = impl.MaxCalls - 2*impl.MaxMore

// countsOfTexts are numbers of points that ReadPoints may be asked for.
var countsOfTexts = []int{0, 1, 2, 5, 33, 120}

// textBytes returns lists of bytes with points of two bytes, line ends, and
// bytes that are wrong, of which some wait wherever a chunk ends.
func textBytes() [][]int {
	return [][]int{
		nil, {13}, {195}, {97, 195, 164, 13, 10, 98, 13, 195}, {13, 10, 13, 13, 195, 195, 164, 10, 255, 13},
		times(12, 195, 164, 13, 10, 98), joined(times(29, 13, 195), []int{13, 10}), times(60, 195), times(60, 13),
	}
}

// textState is what a text may have beside its reader.
type textState struct {
	lead  int
	held  bool
	ahead []int
	from  impl.Cookie
}

// textStates returns states of texts that may read all there is.
func textStates() []textState {
	return []textState{
		{},
		{lead: 195, from: impl.Cookie{Lead: 223, Skip: 3}},
		{held: true, from: impl.Cookie{Pos: 60, Held: true}},
		{lead: 223, held: true, from: impl.Cookie{Pos: 5, Lead: 194, Held: true, Skip: 7}},
		{ahead: []int{228, 13, 10, 3195}, from: impl.Cookie{Pos: 2, Skip: 1}},
		{lead: 194, held: true, ahead: times(8, 3255, 0, 10, 2047), from: impl.Cookie{Pos: 1, Held: true, Skip: 30}},
	}
}

// stateOf returns a text with a state.
func stateOf(r impl.Reader, chunk int, all bool, s textState) impl.Scroll {
	return impl.Scroll{R: r, Chunk: chunk, All: all, Lead: s.lead, Held: s.held, Ahead: s.ahead,
		From: s.from.Pos, FromLead: s.from.Lead, FromHeld: s.from.Held, Given: s.from.Skip}
}

// textReaders returns readers of bytes for texts: with places in, at and behind
// the end, with nothing, something and as much as possible in Buf, and with
// calls that give nothing.
func textReaders(data []int) []impl.Reader {
	var out []impl.Reader
	for _, at := range slices.Compact([]int{0, min(3, len(data)), len(data), 60}) {
		for _, d := range []impl.Device{
			atPlace(data, at, 0), atPlace(data, at, lastTextStep), atPlace(data, at, 0, 1, 60, 2),
			atPlace(data, at, 0, 2, 0, 1, -1, 3, 60, 0), atPlace(data, at, 2, 2, 0, 1, -1, 3, 60, 0),
		} {
			for _, size := range []int{1, 5, 16} {
				out = append(out, impl.Reader{Dev: d, Size: size})
				if k := min(size, at, 7); k > 0 && at <= len(data) {
					out = append(out, readAhead(d, k, size))
				}
			}
		}
	}
	return out
}

// someTexts returns valid texts that may begin to read, in each state.
func someTexts() []impl.Scroll {
	var out []impl.Scroll
	for _, data := range textBytes() {
		for _, r := range textReaders(data) {
			for _, chunk := range []int{1, 2, 60} {
				for _, s := range textStates() {
					out = append(out, stateOf(r, chunk, false, s), stateOf(r, chunk, true, s))
				}
			}
		}
	}
	return out
}

// newText returns the text of bytes and a script from the beginning on.
func newText(data []int, size int, chunk int, all bool, script ...int) impl.Scroll {
	return impl.Scroll{R: newReader(data, size, script...), Chunk: chunk, All: all}
}

// sameText reports whether two texts are the same, where nil is empty.
func sameText(a, b impl.Scroll) bool {
	return sameReader(a.R, b.R) && a.Chunk == b.Chunk && a.All == b.All && a.Lead == b.Lead && a.Held == b.Held && slices.Equal(a.Ahead, b.Ahead) &&
		a.From == b.From && a.FromLead == b.FromLead && a.FromHeld == b.FromHeld && a.Given == b.Given
}

// textModel is a text that reads its chunks byte by byte, and decodes them with
// the standard library's UTF-8.
type textModel struct {
	impl.Scroll
}

// textModelOf returns the model of a valid text.
func textModelOf(x impl.Scroll) *textModel {
	x.Ahead = slices.Clone(x.Ahead)
	return &textModel{x}
}

// chunk reads a chunk, and tells how it ended.
func (m *textModel) chunk() int {
	r := modelOf(m.R)
	place := r.place
	list, st := r.pull(func(list []int) bool { return len(list) == m.Chunk || len(list) > 0 && r.held == 0 })
	m.R = r.reader()
	if st != impl.StOk && st != impl.StEnd {
		return st
	}
	points, lead, _ := someAsUTF8(list, m.Lead, st == impl.StEnd, impl.DmKeep)
	s := impl.Nl{}
	if m.All {
		s, points = nlByBytes(impl.Nl{Held: m.Held}, points, st == impl.StEnd)
	}
	if st == impl.StEnd && len(points) == 0 {
		return st
	}
	m.From, m.FromLead, m.FromHeld, m.Given = place, m.Lead, m.Held, 0
	m.Ahead, m.Lead, m.Held = points, lead, s.Held
	return impl.StOk
}

// pull reads points, one after the other, until stop says that these are enough, or there are no more.
func (m *textModel) pull(stop func(list []int) bool) ([]int, int) {
	var list []int
	for !stop(list) {
		for len(m.Ahead) == 0 {
			if st := m.chunk(); st != impl.StOk {
				return list, st
			}
		}
		list = append(list, m.Ahead[0])
		m.Ahead = m.Ahead[1:]
		m.Given++
	}
	return list, impl.StOk
}

// take reads n points.
func (m *textModel) take(n int) ([]int, int) {
	return m.pull(func(list []int) bool { return len(list) == n })
}

// seek goes to the place of a cookie, and tells how it ended.
func (m *textModel) seek(c impl.Cookie) int {
	m.R, _ = seekWant(m.R, c.Pos, impl.SkStart)
	m.Scroll = stateOf(m.R, m.Chunk, m.All, textState{lead: c.Lead, held: c.Held, from: impl.Cookie{Pos: c.Pos, Lead: c.Lead, Held: c.Held}})
	_, st := m.take(c.Skip)
	return st
}

// meantBy returns what MeaningOf must: all bytes are decoded at once.
func meantBy(x impl.Scroll) []int {
	points, _, _ := someAsUTF8(aheadOf(x.R), x.Lead, true, impl.DmKeep)
	if x.All {
		_, points = nlByBytes(impl.Nl{Held: x.Held}, points, true)
	}
	return joined(x.Ahead, points)
}

// checkText checks what a function that reads returned, by the model.
func checkText(t *testing.T, what string, x, got impl.Scroll, list []int, st int, m *textModel, wantList []int, wantSt int) {
	t.Helper()
	if !sameText(got, m.Scroll) || !slices.Equal(list, wantList) || st != wantSt {
		t.Fatalf("%s(%v) = %v, %v, %d, not %v, %v, %d", what, x, got, list, st, m.Scroll, wantList, wantSt)
	}
	if !impl.ValidText(got) {
		t.Fatalf("%s(%v) = %v, which is not valid", what, x, got)
	}
}

// Promise 69: a valid text has MeaningOf, which begins with what was read ahead.
func TestPromise69TextsMeanPoints(t *testing.T) {
	for _, x := range someTexts() {
		if !impl.ValidText(x) {
			t.Fatalf("ValidText(%v) = false", x)
		}
		meant := impl.MeaningOf(x)
		if !slices.Equal(firstOf(meant, len(x.Ahead)), x.Ahead) || !slices.Equal(meant, meantBy(x)) {
			t.Fatalf("MeaningOf(%v) = %v, not %v", x, meant, meantBy(x))
		}
	}
}

// Promise 70: MeaningOf NewText are the points of all bytes that are ahead.
func TestPromise70NewTextsHaveAllAheadOfThem(t *testing.T) {
	readers := someReaders()
	for _, data := range textBytes() {
		readers = append(readers, textReaders(data)...)
	}
	for _, r := range readers {
		for _, chunk := range []int{1, 2, 59, 60} {
			x, ok := impl.NewText(r, chunk, false)
			want := decodedBy(t, aheadOf(r), impl.DmKeep)
			if !ok || !slices.Equal(impl.MeaningOf(x), want) {
				t.Fatalf("NewText(%v, %d, false) = %v, %v, with the meaning %v, not %v", r, chunk, x, ok, impl.MeaningOf(x), want)
			}
			all, ok := impl.NewText(r, chunk, true)
			_, want = nlByBytes(impl.Nl{}, want, true)
			if !ok || !slices.Equal(impl.MeaningOf(all), want) {
				t.Fatalf("NewText(%v, %d, true) = %v, %v, with the meaning %v, not %v", r, chunk, all, ok, impl.MeaningOf(all), want)
			}
			begin := textState{from: impl.Cookie{Pos: r.Dev.At - len(r.Buf)}}
			if !sameText(x, stateOf(r, chunk, false, begin)) || !sameText(all, stateOf(r, chunk, true, begin)) {
				t.Fatalf("NewText(%v, %d) = %v and %v", r, chunk, x, all)
			}
		}
	}
}

// Promise 71: the points of ReadPoints are the first ones of MeaningOf, n
// exactly with StOk, and MeaningOf is the others then.
func TestPromise71TextsGiveWhatTheyMean(t *testing.T) {
	for _, x := range someTexts() {
		meant := impl.MeaningOf(x)
		for _, n := range countsOfTexts {
			next, list, st := impl.ReadPoints(x, n)
			if len(list) > n || (len(list) == n) != (st == impl.StOk) || !slices.Equal(joined(list, impl.MeaningOf(next)), meant) {
				t.Fatalf("ReadPoints(%v, %d) = %v, %v, %d, of %v", x, n, next, list, st, meant)
			}
			m := textModelOf(x)
			want, wantSt := m.take(n)
			checkText(t, "ReadPoints", x, next, list, st, m, want, wantSt)
		}
	}
}

// Promise 72: for a smooth device ReadPoints gives n points, or all of
// MeaningOf, and ends with StEnd then.
func TestPromise72SmoothTextsGiveAll(t *testing.T) {
	for _, x := range someTexts() {
		if !impl.IsSmooth(x.R.Dev) {
			continue
		}
		meant := impl.MeaningOf(x)
		for _, n := range append([]int{len(meant), len(meant) + 1}, countsOfTexts...) {
			_, list, st := impl.ReadPoints(x, n)
			wantSt := impl.StOk
			if len(meant) < n {
				wantSt = impl.StEnd
			}
			if !slices.Equal(list, firstOf(meant, n)) || st != wantSt {
				t.Fatalf("ReadPoints(%v, %d) = %v, %d, of %v", x, n, list, st, meant)
			}
		}
	}
}

// Promise 73: ReadTextLine has 10 at most as the last point, exactly with StOk,
// and its points are the first ones of MeaningOf.
func TestPromise73LinesEndWithANewline(t *testing.T) {
	for _, x := range someTexts() {
		next, list, st := impl.ReadTextLine(x)
		i := slices.Index(list, 10)
		if i >= 0 && i < len(list)-1 || (i >= 0) != (st == impl.StOk) || !slices.Equal(joined(list, impl.MeaningOf(next)), impl.MeaningOf(x)) {
			t.Fatalf("ReadTextLine(%v) = %v, %v, %d", x, next, list, st)
		}
		m := textModelOf(x)
		want, wantSt := m.pull(func(list []int) bool { return slices.Contains(list, 10) })
		checkText(t, "ReadTextLine", x, next, list, st, m, want, wantSt)
	}
}

// Promise 74: the points of ReadTextRest are the first ones of MeaningOf, all
// for a smooth device.
func TestPromise74TheRestIsWhatIsMeant(t *testing.T) {
	for _, x := range someTexts() {
		next, list, st := impl.ReadTextRest(x)
		left := impl.MeaningOf(next)
		if st == impl.StOk || !slices.Equal(joined(list, left), impl.MeaningOf(x)) {
			t.Fatalf("ReadTextRest(%v) = %v, %v, %d", x, next, list, st)
		}
		if impl.IsSmooth(x.R.Dev) && (st != impl.StEnd || len(left) > 0) {
			t.Fatalf("ReadTextRest(%v) = %v, %v, %d", x, next, list, st)
		}
		m := textModelOf(x)
		want, wantSt := m.take(120)
		checkText(t, "ReadTextRest", x, next, list, st, m, want, wantSt)
	}
}

// Promise 75: TellText of a new text has TellReader as Pos, and nothing else.
func TestPromise75CookiesArePlaces(t *testing.T) {
	for _, r := range someReaders() {
		for _, all := range []bool{false, true} {
			x, _ := impl.NewText(r, 2, all)
			if c, ok := impl.TellText(x); !ok || c != (impl.Cookie{Pos: impl.TellReader(r)}) {
				t.Fatalf("TellText(%v) = %v, %v", x, c, ok)
			}
		}
	}
}

// visit is a place at which a text was, its cookie, and what was ahead there.
type visit struct {
	text   impl.Scroll
	cookie impl.Cookie
	ahead  []int
}

// visits reads a text point by point up to its end, and tells each place on the
// way, also those at which there was nothing just then.
func visits(t *testing.T, x impl.Scroll) []visit {
	t.Helper()
	var out []visit
	for end := false; !end; {
		c, ok := impl.TellText(x)
		if !ok {
			t.Fatalf("TellText(%v) = %v, false", x, c)
		}
		out = append(out, visit{x, c, impl.MeaningOf(x)})
		next, _, st := impl.ReadPoints(x, 1)
		x, end = next, st == impl.StEnd
	}
	c, _ := impl.TellText(x)
	return append(out, visit{x, c, impl.MeaningOf(x)})
}

// visitedTexts returns new texts of all lists of bytes, with a script.
func visitedTexts(all bool, script ...int) []impl.Scroll {
	var out []impl.Scroll
	for _, data := range textBytes() {
		for _, size := range []int{1, 5, 16} {
			for _, chunk := range []int{1, 2, 60} {
				out = append(out, newText(data, size, chunk, all, script...))
			}
		}
	}
	return out
}

// Promise 76: from anywhere SeekText to the cookie of a place at which a text
// was, if it ends with StOk, has ahead what was ahead there.
func TestPromise76CookiesLeadBack(t *testing.T) {
	for _, script := range [][]int{nil, {1, 60, 2}, {2, 0, 1, -1, 3, 60, 0, 1, 0}} {
		for _, x := range append(visitedTexts(false, script...), visitedTexts(true, script...)...) {
			all := visits(t, x)
			// From another buffer and other chunks the same bytes are ahead.
			other := newText(x.R.Dev.Data, 3, 4, x.All, 2, 1, 60)
			for _, from := range []impl.Scroll{x, all[len(all)/2].text, all[len(all)-1].text, other} {
				for _, to := range all {
					back, st := impl.SeekText(from, to.cookie)
					if st == impl.StOk && !slices.Equal(impl.MeaningOf(back), to.ahead) {
						t.Fatalf("SeekText(%v, %v) = %v, with %v ahead, not %v", from, to.cookie, back, impl.MeaningOf(back), to.ahead)
					}
					if st != impl.StOk && impl.IsSmooth(from.R.Dev) {
						t.Fatalf("SeekText(%v, %v) = %v, %d", from, to.cookie, back, st)
					}
				}
			}
		}
	}
}

// Promise 77: after SeekText with StOk to the cookie of a text that was read,
// TellText leads to the same points.
func TestPromise77PlacesAreToldAgain(t *testing.T) {
	told := 0
	for _, script := range [][]int{nil, {3, 1, 0, 2, -1}} {
		for _, x := range append(visitedTexts(false, script...), visitedTexts(true, script...)...) {
			all := visits(t, x)
			end := all[len(all)-1].text
			for _, to := range all {
				back, st := impl.SeekText(end, to.cookie)
				if st != impl.StOk {
					continue
				}
				again, ok := impl.TellText(back)
				twice, st := impl.SeekText(end, again)
				if !ok || st == impl.StOk && !slices.Equal(impl.MeaningOf(twice), to.ahead) {
					t.Fatalf("SeekText(%v, %v) = %v, which tells %v, %v, with %v ahead, not %v", end, to.cookie, back, again, ok, impl.MeaningOf(twice), to.ahead)
				}
				told++
			}
		}
	}
	if told == 0 {
		t.Error("no place was told again")
	}
}

// Promise 78: MeaningOf a text with the script left out is what ReadTextRest gives.
func TestPromise78MeaningsAreOfBytes(t *testing.T) {
	for _, x := range someTexts() {
		bare := x
		bare.R.Dev.Script = nil
		_, list, st := impl.ReadTextRest(bare)
		if st != impl.StEnd || !slices.Equal(impl.MeaningOf(bare), list) || !slices.Equal(impl.MeaningOf(x), list) {
			t.Fatalf("MeaningOf(%v) = %v and %v, but ReadTextRest is %v, %d", x, impl.MeaningOf(x), impl.MeaningOf(bare), list, st)
		}
	}
}

// Short texts are the same however they are cut into chunks.
func TestShortTextsInAllChunks(t *testing.T) {
	for _, data := range shortLists(4, 97, 195, 164, 13, 10) {
		for _, size := range []int{1, 2, 3, 16} {
			for _, chunk := range []int{1, 2, 3, 60} {
				for _, all := range []bool{false, true} {
					x := newText(data, size, chunk, all)
					next, list, st := impl.ReadTextRest(x)
					m := textModelOf(x)
					want, wantSt := m.take(120)
					checkText(t, "ReadTextRest", x, next, list, st, m, want, wantSt)
					if meant := meantBy(x); !slices.Equal(list, meant) || !slices.Equal(impl.MeaningOf(x), meant) || st != impl.StEnd {
						t.Fatalf("ReadTextRest(%v) = %v, %d, and the meaning %v, not %v", x, list, st, impl.MeaningOf(x), meant)
					}
				}
			}
		}
	}
}

// someCookies are cookies of places in, at and behind the end of bytes, also of
// ones at which no text has been.
func someCookies() []impl.Cookie {
	return []impl.Cookie{
		{}, {Pos: 1}, {Pos: 60}, {Pos: 3, Skip: 1}, {Pos: 2, Skip: 5}, {Pos: 0, Skip: 120}, {Pos: 59, Lead: 194, Held: true},
		{Pos: 3, Lead: 195, Skip: 1}, {Pos: 2, Held: true, Skip: 2}, {Pos: 4, Lead: 223, Held: true, Skip: 3}, {Pos: 60, Lead: 223, Held: true, Skip: 2}, {Pos: 60, Skip: 1},
	}
}

func TestSeekTextAsByteByByte(t *testing.T) {
	for _, x := range someTexts() {
		for _, c := range someCookies() {
			next, st := impl.SeekText(x, c)
			m := textModelOf(x)
			wantSt := m.seek(c)
			checkText(t, "SeekText", x, next, nil, st, m, nil, wantSt)
		}
	}
}

// textStep is one of several reads of points, one after the other: how many are
// asked for, what is given and how that ends, and what the reader has read
// ahead, its place, its number of calls, and the rest of the text after that.
type textStep struct {
	n        int
	list     []int
	st       int
	buf      []int
	at, step int
	state    textState
}

// checkTextSteps checks reads of points, one after the other.
func checkTextSteps(t *testing.T, x impl.Scroll, steps []textStep) {
	t.Helper()
	for i, s := range steps {
		next, list, st := impl.ReadPoints(x, s.n)
		r := impl.Reader{Dev: atPlace(x.R.Dev.Data, s.at, s.step, x.R.Dev.Script...), Buf: s.buf, Size: x.R.Size}
		if want := stateOf(r, x.Chunk, x.All, s.state); !slices.Equal(list, s.list) || st != s.st || !sameText(next, want) {
			t.Errorf("read %d, of %d, gave %v, %v, %d, not %v, %v, %d", i, s.n, next, list, st, want, s.list, s.st)
		}
		x = next
	}
}

// begunAt is the state of a text that has given points of a chunk, which began at a place, and has no more of it.
func begunAt(pos int, given int) textState {
	return textState{from: impl.Cookie{Pos: pos, Skip: given}}
}

// A point of two bytes that is parted by a chunk's end comes with the next
// chunk, and a chunk of its first byte gives nothing.
func TestReadPointsParted(t *testing.T) {
	late := textState{from: impl.Cookie{Pos: 2, Lead: 195, Skip: 1}}
	for _, all := range []bool{false, true} {
		checkTextSteps(t, newText([]int{97, 195, 164, 98}, 2, 1, all), []textStep{
			{0, nil, impl.StOk, nil, 0, 0, textState{}},
			{1, []int{97}, impl.StOk, []int{195}, 2, 1, begunAt(0, 1)},
			{1, []int{228}, impl.StOk, []int{98}, 4, 2, late},
			{0, nil, impl.StOk, []int{98}, 4, 2, late},
			{2, []int{98}, impl.StEnd, nil, 4, 3, begunAt(3, 1)},
			{1, nil, impl.StEnd, nil, 4, 4, begunAt(3, 1)},
			{0, nil, impl.StOk, nil, 4, 4, begunAt(3, 1)},
		})
		checkTextSteps(t, newText([]int{97, 195, 164, 98}, 4, 2, all), []textStep{
			{1, []int{97}, impl.StOk, []int{164, 98}, 4, 1, textState{lead: 195, from: impl.Cookie{Skip: 1}}},
			{1, []int{228}, impl.StOk, nil, 4, 1, textState{ahead: []int{98}, from: late.from}},
			{120, []int{98}, impl.StEnd, nil, 4, 2, textState{from: impl.Cookie{Pos: 2, Lead: 195, Skip: 2}}},
		})
		// Not followed so, the first byte was wrong.
		checkTextSteps(t, newText([]int{195, 196, 97}, 1, 1, all), []textStep{
			{1, []int{3195}, impl.StOk, nil, 2, 2, textState{lead: 196, from: impl.Cookie{Pos: 1, Lead: 195, Skip: 1}}},
			{1, []int{3196}, impl.StOk, nil, 3, 3, textState{ahead: []int{97}, from: impl.Cookie{Pos: 2, Lead: 196, Skip: 1}}},
		})
	}
}

// A 13 and a 10 that are parted by a chunk's end are one line end with All, and two points without.
func TestReadPointsPartedLineEnds(t *testing.T) {
	data := []int{97, 13, 10, 98}
	checkTextSteps(t, newText(data, 4, 2, true), []textStep{
		{1, []int{97}, impl.StOk, []int{10, 98}, 4, 1, textState{held: true, from: impl.Cookie{Skip: 1}}},
		{1, []int{10}, impl.StOk, nil, 4, 1, textState{ahead: []int{98}, from: impl.Cookie{Pos: 2, Held: true, Skip: 1}}},
		{3, []int{98}, impl.StEnd, nil, 4, 2, textState{from: impl.Cookie{Pos: 2, Held: true, Skip: 2}}},
	})
	checkTextSteps(t, newText(data, 4, 2, false), []textStep{
		{1, []int{97}, impl.StOk, []int{10, 98}, 4, 1, textState{ahead: []int{13}, from: impl.Cookie{Skip: 1}}},
		{2, []int{13, 10}, impl.StOk, nil, 4, 1, textState{ahead: []int{98}, from: impl.Cookie{Pos: 2, Skip: 1}}},
		{3, []int{98}, impl.StEnd, nil, 4, 2, begunAt(2, 2)},
	})
	// A chunk of a 13 gives nothing, or the line end of the 13 ahead of it.
	last := textState{from: impl.Cookie{Pos: 4, Held: true, Skip: 1}}
	checkTextSteps(t, newText([]int{13, 13, 10, 13}, 1, 1, true), []textStep{
		{1, []int{10}, impl.StOk, nil, 2, 2, textState{held: true, from: impl.Cookie{Pos: 1, Held: true, Skip: 1}}},
		{1, []int{10}, impl.StOk, nil, 3, 3, textState{from: impl.Cookie{Pos: 2, Held: true, Skip: 1}}},
		{1, []int{10}, impl.StOk, nil, 4, 5, last},
		{1, nil, impl.StEnd, nil, 4, 6, last},
		{2, nil, impl.StEnd, nil, 4, 7, last},
	})
}

// What waits is told at the end, once, and then there is no more.
func TestReadPointsWaitingAtTheEnd(t *testing.T) {
	for _, all := range []bool{false, true} {
		told := textState{from: impl.Cookie{Pos: 2, Lead: 195, Skip: 1}}
		checkTextSteps(t, newText([]int{97, 195}, 16, 60, all), []textStep{
			{1, []int{97}, impl.StOk, nil, 2, 1, textState{lead: 195, from: impl.Cookie{Skip: 1}}},
			{1, []int{3195}, impl.StOk, nil, 2, 2, told},
			{1, nil, impl.StEnd, nil, 2, 3, told},
			{1, nil, impl.StEnd, nil, 2, 4, told},
			{0, nil, impl.StOk, nil, 2, 4, told},
		})
	}
	// A 13 waits ahead of a byte that waits.
	told := textState{from: impl.Cookie{Pos: 2, Lead: 195, Held: true, Skip: 2}}
	checkTextSteps(t, newText([]int{13, 195}, 16, 60, true), []textStep{
		{1, []int{10}, impl.StOk, nil, 2, 2, textState{ahead: []int{3195}, from: impl.Cookie{Pos: 2, Lead: 195, Held: true, Skip: 1}}},
		{1, []int{3195}, impl.StOk, nil, 2, 2, told},
		{1, nil, impl.StEnd, nil, 2, 3, told},
	})
	checkTextSteps(t, newText([]int{13, 195}, 16, 60, false), []textStep{
		{1, []int{13}, impl.StOk, nil, 2, 1, textState{lead: 195, from: impl.Cookie{Skip: 1}}},
		{2, []int{3195}, impl.StEnd, nil, 2, 3, textState{from: impl.Cookie{Pos: 2, Lead: 195, Skip: 1}}},
	})
	checkTextSteps(t, newText([]int{13, 195, 164}, 2, 2, true), []textStep{
		{2, []int{10, 228}, impl.StOk, nil, 3, 2, textState{from: impl.Cookie{Pos: 2, Lead: 195, Held: true, Skip: 2}}},
	})
	// The byte that waits is between the 13 and the 10, which are two line ends then.
	checkTextSteps(t, newText([]int{13, 195, 10}, 2, 2, true), []textStep{
		{120, []int{10, 3195, 10}, impl.StEnd, nil, 3, 3, textState{from: impl.Cookie{Pos: 2, Lead: 195, Held: true, Skip: 3}}},
	})
}

// A call that gives nothing in the middle ends the read with the points so far,
// and the text goes on behind them.
func TestReadPointsByScript(t *testing.T) {
	checkTextSteps(t, newText([]int{97, 195, 164, 13, 10, 98}, 16, 60, true, 2, 0, 1, -1, 60), []textStep{
		{120, []int{97}, impl.StNone, nil, 2, 2, textState{lead: 195, from: impl.Cookie{Skip: 1}}},
		{120, []int{228}, impl.StFault, nil, 3, 4, textState{from: impl.Cookie{Pos: 2, Lead: 195, Skip: 1}}},
		{120, []int{10, 98}, impl.StEnd, nil, 6, 6, begunAt(3, 2)},
		{1, nil, impl.StEnd, nil, 6, 7, begunAt(3, 2)},
	})
	// The chunk that gave nothing ahead of that has been read all the same.
	held := textState{held: true, from: impl.Cookie{Pos: 1}}
	checkTextSteps(t, newText([]int{97, 13, 10}, 1, 1, true, 1, 1, 0, -1), []textStep{
		{2, []int{97}, impl.StNone, nil, 2, 3, held},
		{2, nil, impl.StFault, nil, 2, 4, held},
		{0, nil, impl.StOk, nil, 2, 4, held},
		{2, []int{10}, impl.StEnd, nil, 3, 6, textState{from: impl.Cookie{Pos: 2, Held: true, Skip: 1}}},
	})
	lead := textState{lead: 195, from: impl.Cookie{Pos: 1}}
	checkTextSteps(t, newText([]int{97, 195, 164}, 2, 1, false, 60, -1, 0), []textStep{
		{3, []int{97}, impl.StFault, nil, 2, 2, lead},
		{3, nil, impl.StNone, nil, 2, 3, lead},
		{3, []int{228}, impl.StEnd, nil, 3, 5, textState{from: impl.Cookie{Pos: 2, Lead: 195, Skip: 1}}},
	})
	// What waits is not told by a call that gives nothing, but by the end behind it.
	checkTextSteps(t, newText([]int{13, 195}, 16, 60, true, 60, 0, -1), []textStep{
		{1, nil, impl.StNone, nil, 2, 2, textState{lead: 195, held: true}},
		{1, nil, impl.StFault, nil, 2, 3, textState{lead: 195, held: true}},
		{3, []int{10, 3195}, impl.StEnd, nil, 2, 5, textState{from: impl.Cookie{Pos: 2, Lead: 195, Held: true, Skip: 2}}},
	})
}

// Points that are ahead are given first, without a call, and counted on.
func TestReadPointsAhead(t *testing.T) {
	x := stateOf(newReader([]int{98, 99}, 4), 1, true, textState{ahead: []int{228, 13, 3195}, from: impl.Cookie{Pos: 5, Lead: 194, Held: true, Skip: 3}})
	from := impl.Cookie{Pos: 5, Lead: 194, Held: true, Skip: 4}
	checkTextSteps(t, x, []textStep{
		{0, nil, impl.StOk, nil, 0, 0, textState{ahead: []int{228, 13, 3195}, from: impl.Cookie{Pos: 5, Lead: 194, Held: true, Skip: 3}}},
		{1, []int{228}, impl.StOk, nil, 0, 0, textState{ahead: []int{13, 3195}, from: from}},
		{2, []int{13, 3195}, impl.StOk, nil, 0, 0, textState{from: impl.Cookie{Pos: 5, Lead: 194, Held: true, Skip: 6}}},
		{1, []int{98}, impl.StOk, []int{99}, 2, 1, begunAt(0, 1)},
	})
	checkTextSteps(t, x, []textStep{
		{4, []int{228, 13, 3195, 98}, impl.StOk, []int{99}, 2, 1, begunAt(0, 1)},
		{2, []int{99}, impl.StEnd, nil, 2, 2, begunAt(1, 1)},
	})
	// Given grows with each point, also from its limit on.
	x.Given = 120
	checkTextSteps(t, x, []textStep{
		{3, []int{228, 13, 3195}, impl.StOk, nil, 0, 0, textState{from: impl.Cookie{Pos: 5, Lead: 194, Held: true, Skip: 123}}},
	})
	if _, list, st := impl.ReadTextRest(x); !slices.Equal(list, []int{228, 13, 3195, 98, 99}) || st != impl.StEnd {
		t.Errorf("ReadTextRest = %v, %d", list, st)
	}
}

// Without All no 13 waits, also if one did ahead of the text.
func TestReadPointsHeldWithoutAll(t *testing.T) {
	held := textState{held: true, from: impl.Cookie{Pos: 3, Skip: 2}}
	checkTextSteps(t, stateOf(newReader([]int{10, 13}, 4), 60, false, held), []textStep{
		{1, []int{10}, impl.StOk, nil, 2, 1, textState{ahead: []int{13}, from: impl.Cookie{Held: true, Skip: 1}}},
		{2, []int{13}, impl.StEnd, nil, 2, 2, textState{from: impl.Cookie{Held: true, Skip: 2}}},
	})
	// The end changes nothing if it gives nothing.
	checkTextSteps(t, stateOf(newReader(nil, 4), 60, false, held), []textStep{
		{1, nil, impl.StEnd, nil, 0, 1, held},
		{1, nil, impl.StEnd, nil, 0, 2, held},
	})
	checkTextSteps(t, stateOf(newReader(nil, 4, 0, -1), 60, false, held), []textStep{
		{1, nil, impl.StNone, nil, 0, 1, held},
		{1, nil, impl.StFault, nil, 0, 2, held},
	})
	held.lead = 223
	checkTextSteps(t, stateOf(newReader(nil, 4), 60, false, held), []textStep{
		{2, []int{3223}, impl.StEnd, nil, 0, 2, textState{from: impl.Cookie{Lead: 223, Held: true, Skip: 1}}},
	})
}

// A chunk has what is in Buf, however few bytes these are, and Chunk bytes at most.
func TestReadPointsOfBuf(t *testing.T) {
	x := stateOf(readAhead(atPlace([]int{1, 2, 3, 4, 5}, 3, 0), 3, 4), 2, false, textState{})
	checkTextSteps(t, x, []textStep{
		{1, []int{1}, impl.StOk, []int{3}, 3, 0, textState{ahead: []int{2}, from: impl.Cookie{Skip: 1}}},
		{2, []int{2, 3}, impl.StOk, nil, 3, 0, begunAt(2, 1)},
		{5, []int{4, 5}, impl.StEnd, nil, 5, 2, begunAt(3, 2)},
	})
	x.Chunk = 60
	checkTextSteps(t, x, []textStep{
		{1, []int{1}, impl.StOk, nil, 3, 0, textState{ahead: []int{2, 3}, from: impl.Cookie{Skip: 1}}},
	})
	x = stateOf(readAhead(atPlace([]int{97, 195, 164}, 2, 7), 1, 4), 60, true, textState{held: true})
	checkTextSteps(t, x, []textStep{
		{1, []int{10}, impl.StOk, nil, 3, 8, textState{ahead: []int{228}, from: impl.Cookie{Pos: 2, Lead: 195, Held: true, Skip: 1}}},
	})
}

// Behind the end of the bytes there are none, but what waits is told there, too.
func TestReadPointsBehindTheEnd(t *testing.T) {
	r := impl.Reader{Dev: atPlace([]int{1, 2}, 60, 0), Size: 4}
	x, _ := impl.NewText(r, 2, true)
	checkTextSteps(t, x, []textStep{
		{1, nil, impl.StEnd, nil, 60, 1, begunAt(60, 0)},
		{120, nil, impl.StEnd, nil, 60, 2, begunAt(60, 0)},
	})
	checkTextSteps(t, stateOf(r, 2, true, textState{lead: 194, held: true}), []textStep{
		{2, []int{10, 3194}, impl.StOk, nil, 60, 1, textState{from: impl.Cookie{Pos: 60, Lead: 194, Held: true, Skip: 2}}},
		{1, nil, impl.StEnd, nil, 60, 2, textState{from: impl.Cookie{Pos: 60, Lead: 194, Held: true, Skip: 2}}},
	})
}

// Chunks are as long as the buffer and the device allow, and may be of MaxData bytes.
func TestReadPointsOfAllBytes(t *testing.T) {
	x := newText(times(60, 97), 16, 60, true)
	full := times(60, 97)
	checkTextSteps(t, x, []textStep{{60, full, impl.StOk, nil, 60, 4, begunAt(48, 12)}})
	checkTextSteps(t, x, []textStep{{61, full, impl.StEnd, nil, 60, 5, begunAt(48, 12)}})
	checkTextSteps(t, x, []textStep{{120, full, impl.StEnd, nil, 60, 5, begunAt(48, 12)}})
	checkTextSteps(t, x, []textStep{{59, full[:59], impl.StOk, nil, 60, 4, textState{ahead: []int{97}, from: impl.Cookie{Pos: 48, Skip: 11}}}})
	// As many points as there can be: those ahead, one of a 13, and each byte one.
	most := textState{lead: 195, held: true, ahead: times(32, 2047)}
	want := joined(times(32, 2047), []int{10, 3195}, times(60, 3255))
	checkTextSteps(t, stateOf(newReader(times(60, 255), 16), 60, true, most), []textStep{
		{120, want, impl.StEnd, nil, 60, 5, begunAt(48, 12)},
	})
}

// textLine is one of several lines, one behind the other, and how it ended.
type textLine struct {
	list []int
	st   int
}

// checkTextLines checks the lines of a text, one behind the other.
func checkTextLines(t *testing.T, x impl.Scroll, lines []textLine) {
	t.Helper()
	for i, l := range lines {
		next, list, st := impl.ReadTextLine(x)
		if !slices.Equal(list, l.list) || st != l.st {
			t.Errorf("line %d of %v = %v, %v, %d, not %v, %d", i, x, next, list, st, l.list, l.st)
		}
		x = next
	}
}

func TestReadTextLine(t *testing.T) {
	data := []int{97, 13, 98, 13, 10, 10, 195, 164, 255, 10, 13}
	for _, chunk := range []int{1, 2, 3, 60} {
		checkTextLines(t, newText(data, 4, chunk, true), []textLine{
			{[]int{97, 10}, impl.StOk}, {[]int{98, 10}, impl.StOk}, {[]int{10}, impl.StOk}, {[]int{228, 3255, 10}, impl.StOk}, {[]int{10}, impl.StOk}, {nil, impl.StEnd}, {nil, impl.StEnd},
		})
		checkTextLines(t, newText(data, 4, chunk, false), []textLine{
			{[]int{97, 13, 98, 13, 10}, impl.StOk}, {[]int{10}, impl.StOk}, {[]int{228, 3255, 10}, impl.StOk}, {[]int{13}, impl.StEnd}, {nil, impl.StEnd},
		})
		checkTextLines(t, newText([]int{97, 98, 10, 99, 195}, 2, chunk, true, 1, 0, 1, -1, 60), []textLine{
			{[]int{97}, impl.StNone}, {[]int{98}, impl.StFault}, {[]int{10}, impl.StOk}, {[]int{99, 3195}, impl.StEnd}, {nil, impl.StEnd},
		})
	}
	// What was read ahead may have line ends, and a 13 there is none.
	checkTextLines(t, stateOf(newReader([]int{97, 13}, 4, 0), 60, true, textState{ahead: []int{10, 13, 228, 10, 98}}), []textLine{
		{[]int{10}, impl.StOk}, {[]int{13, 228, 10}, impl.StOk}, {[]int{98}, impl.StNone}, {[]int{97, 10}, impl.StOk}, {nil, impl.StEnd},
	})
	long := joined(times(32, 2047), []int{3195}, times(60, 97))
	checkTextLines(t, stateOf(newReader(times(60, 97), 16), 60, false, textState{lead: 195, ahead: times(32, 2047)}), []textLine{{long, impl.StEnd}, {nil, impl.StEnd}})
}

func TestTellText(t *testing.T) {
	r := readAhead(atPlace(counted(20), 8, 1000, -1), 3, 4)
	for _, c := range []struct {
		state textState
		want  impl.Cookie
	}{
		{textState{}, impl.Cookie{Pos: 5}},
		{textState{lead: 194}, impl.Cookie{Pos: 5, Lead: 194}},
		{textState{held: true}, impl.Cookie{Pos: 5, Held: true}},
		{textState{lead: 223, held: true}, impl.Cookie{Pos: 5, Lead: 223, Held: true}},
		{textState{lead: 195, from: impl.Cookie{Pos: 3, Lead: 194, Held: true, Skip: 9}}, impl.Cookie{Pos: 5, Lead: 195}},
		{textState{from: impl.Cookie{Pos: 60, Lead: 194, Held: true, Skip: 120}}, impl.Cookie{Pos: 5}},
		{textState{ahead: []int{97}}, impl.Cookie{}},
		{textState{ahead: []int{97}, from: impl.Cookie{Pos: 3}}, impl.Cookie{Pos: 3}},
		{textState{ahead: []int{97}, lead: 223, held: true, from: impl.Cookie{Pos: 3, Skip: 2}}, impl.Cookie{Pos: 3, Skip: 2}},
		{textState{ahead: []int{97, 98}, from: impl.Cookie{Pos: 60, Lead: 194, Held: true, Skip: 120}}, impl.Cookie{Pos: 60, Lead: 194, Held: true, Skip: 120}},
		{textState{ahead: times(32, 3255), held: true, from: impl.Cookie{Pos: 7, Lead: 223}}, impl.Cookie{Pos: 7, Lead: 223}},
	} {
		for _, all := range []bool{false, true} {
			x := stateOf(r, 2, all, c.state)
			if got, ok := impl.TellText(x); !ok || got != c.want {
				t.Errorf("TellText(%v) = %v, %v, not %v", x, got, ok, c.want)
			}
		}
	}
	behind := impl.Scroll{R: impl.Reader{Dev: atPlace(nil, 60, 0), Size: 1}, Chunk: 1}
	if got, ok := impl.TellText(behind); !ok || got != (impl.Cookie{Pos: 60}) {
		t.Errorf("TellText(%v) = %v, %v", behind, got, ok)
	}
}

// textSeek is a seek: the cookie, how it ends, and the text after it as in a textStep.
type textSeek struct {
	c        impl.Cookie
	st       int
	buf      []int
	at, step int
	state    textState
}

// checkTextSeeks checks seeks, each one from the same text.
func checkTextSeeks(t *testing.T, x impl.Scroll, seeks []textSeek) {
	t.Helper()
	for _, s := range seeks {
		next, st := impl.SeekText(x, s.c)
		r := impl.Reader{Dev: atPlace(x.R.Dev.Data, s.at, s.step, x.R.Dev.Script...), Buf: s.buf, Size: x.R.Size}
		if want := stateOf(r, x.Chunk, x.All, s.state); st != s.st || !sameText(next, want) {
			t.Errorf("SeekText(%v, %v) = %v, %d, not %v, %d", x, s.c, next, st, want, s.st)
		}
	}
}

// Without Skip no point is read, and what was read ahead is as for SeekReader.
func TestSeekTextWithoutSkip(t *testing.T) {
	data := []int{97, 98, 195, 164, 13, 10, 99, 100}
	ahead := textState{lead: 223, held: true, ahead: []int{98, 10}, from: impl.Cookie{Pos: 1, Lead: 194, Held: true, Skip: 9}}
	for _, all := range []bool{false, true} {
		x := stateOf(readAhead(atPlace(data, 7, 2, 60, 60, 0), 4, 5), 3, all, ahead)
		checkTextSeeks(t, x, []textSeek{
			{impl.Cookie{}, impl.StOk, nil, 0, 2, textState{}},
			{impl.Cookie{Pos: 2}, impl.StOk, nil, 2, 2, begunAt(2, 0)},
			{impl.Cookie{Pos: 3}, impl.StOk, []int{164, 13, 10, 99}, 7, 2, begunAt(3, 0)},
			{impl.Cookie{Pos: 3, Lead: 195}, impl.StOk, []int{164, 13, 10, 99}, 7, 2, textState{lead: 195, from: impl.Cookie{Pos: 3, Lead: 195}}},
			{impl.Cookie{Pos: 5, Held: true}, impl.StOk, []int{10, 99}, 7, 2, textState{held: true, from: impl.Cookie{Pos: 5, Held: true}}},
			{impl.Cookie{Pos: 7}, impl.StOk, nil, 7, 2, begunAt(7, 0)},
			{impl.Cookie{Pos: 8}, impl.StOk, nil, 8, 2, begunAt(8, 0)},
			{impl.Cookie{Pos: 60, Lead: 194, Held: true}, impl.StOk, nil, 60, 2, textState{lead: 194, held: true, from: impl.Cookie{Pos: 60, Lead: 194, Held: true}}},
		})
	}
}

// With Skip as many points are read, and it ends as that does.
func TestSeekTextWithSkip(t *testing.T) {
	x := newText([]int{97, 98, 195, 164, 13, 10, 99, 100}, 8, 3, true)
	x, _, _ = impl.ReadTextRest(x)
	checkTextSeeks(t, x, []textSeek{
		{impl.Cookie{Skip: 1}, impl.StOk, []int{164, 13, 10, 99, 100}, 8, 3, textState{lead: 195, ahead: []int{98}, from: impl.Cookie{Skip: 1}}},
		{impl.Cookie{Skip: 2}, impl.StOk, []int{164, 13, 10, 99, 100}, 8, 3, textState{lead: 195, from: impl.Cookie{Skip: 2}}},
		{impl.Cookie{Skip: 3}, impl.StOk, []int{99, 100}, 8, 3, textState{ahead: []int{10}, from: impl.Cookie{Pos: 3, Lead: 195, Skip: 1}}},
		{impl.Cookie{Pos: 3, Lead: 195, Skip: 1}, impl.StOk, []int{99, 100}, 8, 3, textState{ahead: []int{10}, from: impl.Cookie{Pos: 3, Lead: 195, Skip: 1}}},
		{impl.Cookie{Pos: 5, Held: true, Skip: 2}, impl.StOk, nil, 8, 3, textState{ahead: []int{100}, from: impl.Cookie{Pos: 5, Held: true, Skip: 2}}},
		{impl.Cookie{Pos: 8, Skip: 1}, impl.StEnd, nil, 8, 3, begunAt(8, 0)},
		{impl.Cookie{Pos: 8, Lead: 195, Skip: 1}, impl.StOk, nil, 8, 3, textState{from: impl.Cookie{Pos: 8, Lead: 195, Skip: 1}}},
		{impl.Cookie{Pos: 8, Held: true, Skip: 2}, impl.StEnd, nil, 8, 4, textState{from: impl.Cookie{Pos: 8, Held: true, Skip: 1}}},
		{impl.Cookie{Skip: 6}, impl.StOk, nil, 8, 3, begunAt(6, 2)},
		{impl.Cookie{Skip: 7}, impl.StEnd, nil, 8, 4, begunAt(6, 2)},
		{impl.Cookie{Skip: 120}, impl.StEnd, nil, 8, 4, begunAt(6, 2)},
	})
	// No point ends it ahead of that.
	checkTextSeeks(t, newText([]int{0, 10, 97, 0, 98}, 8, 60, true), []textSeek{
		{impl.Cookie{Skip: 4}, impl.StOk, nil, 5, 1, textState{ahead: []int{98}, from: impl.Cookie{Skip: 4}}},
	})
}

// A call that gives nothing on the way ends the seek where it is then.
func TestSeekTextByScript(t *testing.T) {
	data := []int{97, 195, 164, 98, 99}
	checkTextSeeks(t, newText(data, 4, 60, true, 2, 0, 60, -1), []textSeek{
		{impl.Cookie{}, impl.StOk, nil, 0, 0, textState{}},
		{impl.Cookie{Skip: 1}, impl.StOk, nil, 2, 1, textState{lead: 195, from: impl.Cookie{Skip: 1}}},
		{impl.Cookie{Skip: 2}, impl.StNone, nil, 2, 2, textState{lead: 195, from: impl.Cookie{Skip: 1}}},
		{impl.Cookie{Pos: 3, Skip: 3}, impl.StNone, nil, 5, 2, begunAt(3, 2)},
	})
	checkTextSeeks(t, newText(data, 4, 60, true, -1), []textSeek{
		{impl.Cookie{Pos: 4}, impl.StOk, nil, 4, 0, begunAt(4, 0)},
		{impl.Cookie{Pos: 4, Skip: 1}, impl.StFault, nil, 4, 1, begunAt(4, 0)},
		{impl.Cookie{Pos: 2, Lead: 195, Held: true, Skip: 9}, impl.StFault, nil, 2, 1, textState{lead: 195, held: true, from: impl.Cookie{Pos: 2, Lead: 195, Held: true}}},
	})
}

// Back at a place in the middle of a chunk, the text tells the same cookie, and gives the same points.
func TestSeekTextBackAndTellAgain(t *testing.T) {
	x := newText([]int{97, 98, 195, 164, 99, 13, 10, 98}, 16, 3, true)
	x, _, _ = impl.ReadPoints(x, 1)
	for _, c := range []struct {
		cookie impl.Cookie
		then   []int
	}{
		{impl.Cookie{Skip: 1}, []int{98, 228, 99, 10, 98}},
		{impl.Cookie{Pos: 3, Lead: 195}, []int{228, 99, 10, 98}},
		{impl.Cookie{Pos: 3, Lead: 195, Skip: 1}, []int{99, 10, 98}},
		{impl.Cookie{Pos: 6, Held: true}, []int{10, 98}},
		{impl.Cookie{Pos: 6, Held: true, Skip: 1}, []int{98}},
		{impl.Cookie{Pos: 8}, nil},
	} {
		if got, ok := impl.TellText(x); !ok || got != c.cookie {
			t.Errorf("TellText(%v) = %v, %v, not %v", x, got, ok, c.cookie)
		}
		end, _, _ := impl.ReadTextRest(x)
		back, st := impl.SeekText(end, c.cookie)
		if again, ok := impl.TellText(back); st != impl.StOk || !ok || again != c.cookie {
			t.Errorf("SeekText(%v, %v) = %v, %d, which tells %v", end, c.cookie, back, st, again)
		}
		if _, list, _ := impl.ReadTextRest(back); !slices.Equal(list, c.then) {
			t.Errorf("ReadTextRest(%v) = %v, not %v", back, list, c.then)
		}
		x, _, _ = impl.ReadPoints(x, 1)
	}
}

func TestMeaningOf(t *testing.T) {
	whole := func(data []int, at int) impl.Reader { return impl.Reader{Dev: atPlace(data, at, 1000, -1, 0), Size: 4} }
	for _, c := range []struct {
		r           impl.Reader
		state       textState
		plain, made []int
	}{
		{whole(nil, 0), textState{}, nil, nil},
		{whole([]int{97, 13, 10, 98, 13}, 0), textState{}, []int{97, 13, 10, 98, 13}, []int{97, 10, 98, 10}},
		{whole([]int{97, 13, 10, 98, 13}, 2), textState{}, []int{10, 98, 13}, []int{10, 98, 10}},
		{whole([]int{97, 13, 10, 98, 13}, 2), textState{held: true}, []int{10, 98, 13}, []int{10, 98, 10}},
		{whole([]int{97, 13}, 1), textState{held: true}, []int{13}, []int{10, 10}},
		{whole(nil, 0), textState{held: true}, nil, []int{10}},
		{whole(nil, 0), textState{lead: 195}, []int{3195}, []int{3195}},
		{whole(nil, 0), textState{lead: 195, held: true}, []int{3195}, []int{10, 3195}},
		{whole([]int{164, 98}, 0), textState{lead: 195}, []int{228, 98}, []int{228, 98}},
		{whole([]int{164, 10}, 0), textState{lead: 195, held: true}, []int{228, 10}, []int{10, 228, 10}},
		{whole([]int{10, 164}, 0), textState{lead: 195, held: true}, []int{3195, 10, 3164}, []int{10, 3195, 10, 3164}},
		{whole([]int{195, 255, 128, 224, 97, 195}, 0), textState{}, []int{3195, 3255, 3128, 3224, 97, 3195}, []int{3195, 3255, 3128, 3224, 97, 3195}},
		{whole([]int{97}, 0), textState{ahead: []int{13, 10, 3195, 13}}, []int{13, 10, 3195, 13, 97}, []int{13, 10, 3195, 13, 97}},
		{whole([]int{10}, 0), textState{ahead: []int{13}, held: true}, []int{13, 10}, []int{13, 10}},
		{whole([]int{1, 2}, 2), textState{ahead: []int{7}}, []int{7}, []int{7}},
		{whole([]int{1, 2}, 60), textState{ahead: []int{7}, lead: 223}, []int{7, 3223}, []int{7, 3223}},
		{readAhead(atPlace([]int{97, 195, 164, 13, 10}, 2, 1000), 2, 2), textState{}, []int{97, 228, 13, 10}, []int{97, 228, 10}},
		{readAhead(atPlace([]int{97, 195, 164, 13, 10}, 4, 0, 0), 2, 4), textState{lead: 195}, []int{228, 13, 10}, []int{228, 10}},
		{whole(times(60, 13), 0), textState{lead: 194, held: true, ahead: times(32, 1)}, joined(times(32, 1), []int{3194}, times(60, 13)), joined(times(32, 1), []int{10, 3194}, times(60, 10))},
	} {
		for _, chunk := range []int{1, 60} {
			x := stateOf(c.r, chunk, false, c.state)
			if got := impl.MeaningOf(x); !slices.Equal(got, c.plain) {
				t.Errorf("MeaningOf(%v) = %v, not %v", x, got, c.plain)
			}
			x.All = true
			if got := impl.MeaningOf(x); !slices.Equal(got, c.made) {
				t.Errorf("MeaningOf(%v) = %v, not %v", x, got, c.made)
			}
		}
	}
}

// wrongLeads are numbers that are neither 0 nor bytes that begin a point.
func wrongLeads() []int {
	return append([]int{193, 224, 1, -1, 10, 13, 97, 128, 255, 256, -194, 3195, wrap, wrap + 195}, huge...)
}

// wrongTexts returns texts each of which is not valid for one reason.
func wrongTexts() []impl.Scroll {
	good := newText([]int{97, 195, 164, 10}, 4, 2, true)
	var out []impl.Scroll
	change := func(by func(x *impl.Scroll)) {
		x := good
		by(&x)
		out = append(out, x)
	}
	for _, r := range wrongReaders() {
		change(func(x *impl.Scroll) { x.R = r })
	}
	for _, n := range append([]int{0, -1, 61, wrap + 1}, huge...) {
		change(func(x *impl.Scroll) { x.Chunk = n })
	}
	for _, n := range wrongLeads() {
		change(func(x *impl.Scroll) { x.Lead = n })
		change(func(x *impl.Scroll) { x.FromLead = n })
	}
	for _, list := range append(wrongPoints(), times(33, 97), times(60, 97), times(33, 3255), append(times(31, 97), 2048)) {
		change(func(x *impl.Scroll) { x.Ahead = list })
	}
	for _, n := range append([]int{-1, 61, 121, wrap}, huge...) {
		change(func(x *impl.Scroll) { x.From = n })
	}
	for _, n := range append([]int{-1, 121, wrap}, huge...) {
		change(func(x *impl.Scroll) { x.Given = n })
	}
	return append(out, impl.Scroll{})
}

// wrongCookies returns cookies each of which is none for one reason.
func wrongCookies() []impl.Cookie {
	var out []impl.Cookie
	for _, n := range append([]int{-1, 61, 120, wrap}, huge...) {
		out = append(out, impl.Cookie{Pos: n})
	}
	for _, n := range wrongLeads() {
		out = append(out, impl.Cookie{Lead: n}, impl.Cookie{Pos: 1, Lead: n, Held: true, Skip: 1})
	}
	for _, n := range append([]int{-1, 121, wrap}, huge...) {
		out = append(out, impl.Cookie{Skip: n})
	}
	return out
}

func TestValidText(t *testing.T) {
	good := newText([]int{97, 195, 164, 10}, 4, 2, true)
	late := good
	late.R.Dev.Step = 1000
	for _, x := range []impl.Scroll{
		{R: impl.Reader{Size: 1}, Chunk: 1},
		good, late,
		{R: good.R, Chunk: 60, All: true, Lead: 194, Held: true, Ahead: times(32, 3255), From: 60, FromLead: 223, FromHeld: true, Given: 120},
		{R: good.R, Chunk: 1, Lead: 223, Held: true, Ahead: []int{0, 2047, 3128}, FromLead: 194},
		{R: readAhead(atPlace(counted(60), 16, 0), 16, 16), Chunk: 17, Ahead: []int{}},
	} {
		if !impl.ValidText(x) {
			t.Errorf("ValidText(%v) = false", x)
		}
	}
	for _, x := range wrongTexts() {
		if impl.ValidText(x) {
			t.Errorf("ValidText(%v) = true", x)
		}
	}
}

func TestNewTextWrong(t *testing.T) {
	check := func(r impl.Reader, chunk int) {
		t.Helper()
		for _, all := range []bool{false, true} {
			if x, ok := impl.NewText(r, chunk, all); ok || !sameText(x, impl.Scroll{}) {
				t.Errorf("NewText(%v, %d, %v) = %v, %v", r, chunk, all, x, ok)
			}
		}
	}
	for _, r := range wrongReaders() {
		check(r, 1)
	}
	for _, chunk := range append([]int{0, -1, 61, wrap + 1}, huge...) {
		check(newReader([]int{97}, 4), chunk)
	}
}

// wrongText checks that a function says that its arguments are wrong.
func wrongText(t *testing.T, what string, next impl.Scroll, list []int, st int) {
	t.Helper()
	if !sameText(next, impl.Scroll{}) || len(list) > 0 || st != impl.StWrong {
		t.Errorf("%s = %v, %v, %d", what, next, list, st)
	}
}

// wrongToRead checks that each function that reads says that the text is wrong.
func wrongToRead(t *testing.T, x impl.Scroll) {
	t.Helper()
	for _, n := range countsOfTexts {
		next, list, st := impl.ReadPoints(x, n)
		wrongText(t, "ReadPoints", next, list, st)
	}
	next, list, st := impl.ReadTextLine(x)
	wrongText(t, "ReadTextLine", next, list, st)
	next, list, st = impl.ReadTextRest(x)
	wrongText(t, "ReadTextRest", next, list, st)
	for _, c := range someCookies() {
		next, st := impl.SeekText(x, c)
		wrongText(t, "SeekText", next, nil, st)
	}
}

func TestTextsWrong(t *testing.T) {
	for _, x := range wrongTexts() {
		wrongToRead(t, x)
		if c, ok := impl.TellText(x); ok || c != (impl.Cookie{}) {
			t.Errorf("TellText(%v) = %v, %v", x, c, ok)
		}
		if list := impl.MeaningOf(x); len(list) > 0 {
			t.Errorf("MeaningOf(%v) = %v", x, list)
		}
	}
}

func TestTextsWrongNumbers(t *testing.T) {
	for _, data := range textBytes() {
		for _, s := range textStates() {
			x := stateOf(newReader(data, 4), 2, true, s)
			for _, n := range append([]int{-1, 121, wrap}, huge...) {
				next, list, st := impl.ReadPoints(x, n)
				wrongText(t, "ReadPoints", next, list, st)
			}
			for _, c := range wrongCookies() {
				next, st := impl.SeekText(x, c)
				wrongText(t, "SeekText", next, nil, st)
			}
		}
	}
}

// A text at Step MaxCalls-2*MaxMore makes all the calls that it needs, and one
// with one more none, but it can still be told and means the same.
func TestTextsAtTheirLastStep(t *testing.T) {
	data := joined(times(59, 97), []int{195})
	x := stateOf(impl.Reader{Dev: atPlace(data, 0, lastTextStep), Size: 1}, 1, false, textState{})
	end := stateOf(impl.Reader{Dev: atPlace(data, 60, lastTextStep+62), Size: 1}, 1, false, textState{from: impl.Cookie{Pos: 60, Lead: 195, Skip: 1}})
	check := func(what string, next impl.Scroll, list []int, st int) {
		t.Helper()
		if !sameText(next, end) || !slices.Equal(list, joined(times(59, 97), []int{3195})) || st != impl.StEnd {
			t.Errorf("%s = %v, %v, %d", what, next, list, st)
		}
	}
	next, list, st := impl.ReadPoints(x, 61)
	check("ReadPoints", next, list, st)
	next, list, st = impl.ReadTextLine(x)
	check("ReadTextLine", next, list, st)
	next, list, st = impl.ReadTextRest(x)
	check("ReadTextRest", next, list, st)
	next, st = impl.SeekText(x, impl.Cookie{Skip: 61})
	check("SeekText", next, list, st)
	for _, step := range []int{lastTextStep + 1, lastStep, lastStep + 1, 999, 1000} {
		for _, s := range textStates() {
			late := stateOf(impl.Reader{Dev: atPlace(data, 0, step), Size: 1}, 1, false, s)
			wrongToRead(t, late)
			if c, ok := impl.TellText(late); !ok || len(s.ahead) > 0 && c != s.from || len(s.ahead) == 0 && c != (impl.Cookie{Lead: s.lead, Held: s.held}) {
				t.Errorf("TellText(%v) = %v, %v", late, c, ok)
			}
			if meant := impl.MeaningOf(late); !impl.ValidText(late) || !slices.Equal(meant, meantBy(late)) {
				t.Errorf("MeaningOf(%v) = %v", late, meant)
			}
		}
	}
}

// textCalls are the functions that return texts or points.
func textCalls() map[string]func(x impl.Scroll) (impl.Scroll, []int) {
	one := func(next impl.Scroll, list []int, st int) (impl.Scroll, []int) {
		return next, list
	}
	none := func(next impl.Scroll, st int) (impl.Scroll, []int) {
		return next, nil
	}
	return map[string]func(x impl.Scroll) (impl.Scroll, []int){
		"NewText": func(x impl.Scroll) (impl.Scroll, []int) {
			next, _ := impl.NewText(x.R, x.Chunk, x.All)
			return next, nil
		},
		"ReadPoints":              func(x impl.Scroll) (impl.Scroll, []int) { return one(impl.ReadPoints(x, 2)) },
		"ReadPoints of nothing":   func(x impl.Scroll) (impl.Scroll, []int) { return one(impl.ReadPoints(x, 0)) },
		"ReadPoints of more":      func(x impl.Scroll) (impl.Scroll, []int) { return one(impl.ReadPoints(x, 7)) },
		"ReadTextLine":            func(x impl.Scroll) (impl.Scroll, []int) { return one(impl.ReadTextLine(x)) },
		"ReadTextRest":            func(x impl.Scroll) (impl.Scroll, []int) { return one(impl.ReadTextRest(x)) },
		"SeekText":                func(x impl.Scroll) (impl.Scroll, []int) { return none(impl.SeekText(x, impl.Cookie{Skip: 1})) },
		"SeekText without a skip": func(x impl.Scroll) (impl.Scroll, []int) { return none(impl.SeekText(x, impl.Cookie{Pos: 3})) },
		"SeekText to the end": func(x impl.Scroll) (impl.Scroll, []int) {
			return none(impl.SeekText(x, impl.Cookie{Pos: 60, Lead: 195, Skip: 1}))
		},
		"MeaningOf": func(x impl.Scroll) (impl.Scroll, []int) { return impl.Scroll{}, impl.MeaningOf(x) },
	}
}

// No function changes its arguments, no result shares memory with an argument,
// and no two slices of a result share memory.
func TestTextResultsAreNew(t *testing.T) {
	data := []int{97, 13, 10, 195, 164, 98, 99, 195, 10}
	for name, call := range textCalls() {
		for _, script := range [][]int{{2, 5, 3, 60}, {2, 4, 0}, {2, 0}, {2, -1}} {
			for _, s := range textStates() {
				for _, k := range []int{0, 2, 4} {
					x := stateOf(readAhead(atPlace(data, 4, 1, script...), k, 5), 3, true, s)
					given := x
					given.R = impl.Reader{Dev: impl.Device{Data: roomy(data), At: 4, Script: roomy(script), Step: 1}, Buf: roomy(x.R.Buf), Size: 5}
					given.Ahead = roomy(x.Ahead)
					next, list := call(given)
					impl.ValidText(given)
					impl.TellText(given)
					d := given.R.Dev
					if !intact(d.Data, data) || !intact(d.Script, script) || !intact(given.R.Buf, x.R.Buf) || !intact(given.Ahead, x.Ahead) {
						t.Errorf("%s: an argument was changed", name)
					}
					checkApart(t, name, d.Data, d.Script, given.R.Buf, given.Ahead, next.R.Dev.Data, next.R.Dev.Script, next.R.Buf, next.Ahead, list)
				}
			}
		}
	}
}
