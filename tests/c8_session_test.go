package tests

import (
	"fmt"
	"regexp"
	"slices"
	"strings"
	"testing"

	"loop.example/streamlayers/impl"
)

// act returns an act of a Kind with its numbers, as they stand in its text.
func act(kind int, numbers ...int) impl.Act {
	a := impl.Act{Kind: kind}
	switch kind {
	case impl.AcRead, impl.AcCut:
		a.N = numbers[0]
	case impl.AcWrite:
		a.List = numbers
	case impl.AcSeek:
		a.N, a.Whence = numbers[0], numbers[1]
	}
	return a
}

// someActs returns valid acts: each Kind with the least and the greatest of each
// of its numbers, and with some between.
func someActs() []impl.Act {
	out := []impl.Act{act(impl.AcFlush), act(impl.AcTell)}
	for _, n := range []int{0, 1, 3, 10, 59, 60} {
		out = append(out, act(impl.AcRead, n), act(impl.AcCut, n))
	}
	for _, whence := range whences {
		for _, n := range []int{-60, -10, -9, -1, 0, 1, 9, 60} {
			out = append(out, act(impl.AcSeek, n, whence))
		}
	}
	for _, list := range [][]int{nil, {0}, {255}, {7, 10, 100}, taken(12)} {
		out = append(out, act(impl.AcWrite, list...))
	}
	return out
}

// wrongActs returns acts each of which is not valid for one reason.
func wrongActs() []impl.Act {
	var out []impl.Act
	for _, kind := range append([]int{-1, 6}, huge...) {
		out = append(out, impl.Act{Kind: kind}, impl.Act{Kind: kind, N: 1}, impl.Act{Kind: kind, List: []int{1}})
	}
	for _, n := range append([]int{-61, -1, 61}, huge...) {
		out = append(out, act(impl.AcRead, n), act(impl.AcCut, n))
	}
	for _, whence := range whences {
		for _, n := range append([]int{-61, 61}, huge...) {
			out = append(out, act(impl.AcSeek, n, whence))
		}
	}
	for _, whence := range append([]int{-1, 3}, huge...) {
		out = append(out, act(impl.AcSeek, 0, whence))
	}
	for _, list := range append(wrongLists(), taken(13), zeros(13), taken(60), joined(taken(11), []int{-1}), joined(taken(11), []int{256})) {
		out = append(out, act(impl.AcWrite, list...))
	}
	for kind := range 6 {
		for _, n := range []int{-60, -1, 1, 2, 60} {
			if kind != impl.AcSeek {
				out = append(out, impl.Act{Kind: kind, Whence: n})
			}
			if kind == impl.AcWrite || kind == impl.AcFlush || kind == impl.AcTell {
				out = append(out, impl.Act{Kind: kind, N: n})
			}
		}
		if kind != impl.AcWrite {
			out = append(out, impl.Act{Kind: kind, List: []int{0}}, impl.Act{Kind: kind, List: taken(12)})
		}
	}
	return append(out, impl.Act{Kind: impl.AcWrite, N: 1, List: []int{1}}, impl.Act{Kind: impl.AcWrite, Whence: 1, List: []int{1}})
}

// sameAct reports whether two acts are the same, where nil is empty.
func sameAct(a, b impl.Act) bool {
	return a.Kind == b.Kind && a.N == b.N && a.Whence == b.Whence && slices.Equal(a.List, b.List)
}

// sameActs reports whether acts are the same, where nil is empty.
func sameActs(a, b []impl.Act) bool {
	return slices.EqualFunc(a, b, sameAct)
}

// spaced returns a word and numbers, each with a space ahead of it.
func spaced(word string, numbers ...int) string {
	for _, n := range numbers {
		word += fmt.Sprintf(" %d", n)
	}
	return word
}

// said returns the answer of an act that ended so, with numbers.
func said(st int, numbers ...int) string {
	words := map[int]string{
		impl.StOk: "ok", impl.StEnd: "end", impl.StNone: "none", impl.StFault: "fault", impl.StFull: "full", impl.StWrong: "wrong",
	}
	return spaced(words[st], numbers...)
}

// numbersOfAct returns the numbers that an act has.
func numbersOfAct(a impl.Act) []int {
	switch a.Kind {
	case impl.AcRead, impl.AcCut:
		return []int{a.N}
	case impl.AcSeek:
		return []int{a.N, a.Whence}
	}
	return a.List
}

// textsOfActs returns the text of each valid act that writes nothing, with the act.
func textsOfActs() map[string]impl.Act {
	out := map[string]impl.Act{"flush": act(impl.AcFlush), "tell": act(impl.AcTell)}
	for n := 0; n <= 60; n++ {
		out[fmt.Sprintf("read %d", n)] = act(impl.AcRead, n)
		out[fmt.Sprintf("cut %d", n)] = act(impl.AcCut, n)
	}
	for n := -60; n <= 60; n++ {
		for _, whence := range whences {
			out[fmt.Sprintf("seek %d %d", n, whence)] = act(impl.AcSeek, n, whence)
		}
	}
	return out
}

// textsOfWrites returns the texts of acts that write, with the acts: each byte
// alone, and each number of bytes.
func textsOfWrites() map[string]impl.Act {
	out := map[string]impl.Act{}
	for n := 0; n <= 255; n++ {
		out[fmt.Sprintf("write %d", n)] = act(impl.AcWrite, n)
	}
	text := "write"
	for n := 0; n <= 12; n++ {
		out[text] = act(impl.AcWrite, counted(n)...)
		text += fmt.Sprintf(" %d", counted(n + 1)[n])
	}
	return out
}

// Promise 79: ParseAct of ActText of a valid act is it.
func TestPromise79ActsHaveTexts(t *testing.T) {
	for _, texts := range []map[string]impl.Act{textsOfActs(), textsOfWrites()} {
		for text, a := range texts {
			if got := impl.ActText(a); !impl.ValidAct(a) || got != text {
				t.Errorf("ActText(%v) = %q, not %q", a, got, text)
			}
			if got, ok := impl.ParseAct(text); !ok || !sameAct(got, a) {
				t.Errorf("ParseAct(%q) = %v, %v", text, got, ok)
			}
		}
	}
	for _, a := range someActs() {
		if got, ok := impl.ParseAct(impl.ActText(a)); !ok || !sameAct(got, a) {
			t.Errorf("ParseAct(%q) = %v, %v, not %v", impl.ActText(a), got, ok, a)
		}
	}
}

func TestActText(t *testing.T) {
	for _, c := range []struct {
		a    impl.Act
		text string
	}{
		{impl.Act{}, "read 0"},
		{impl.Act{Kind: impl.AcRead, N: 60}, "read 60"},
		{impl.Act{Kind: impl.AcWrite}, "write"},
		{impl.Act{Kind: impl.AcWrite, List: []int{}}, "write"},
		{impl.Act{Kind: impl.AcWrite, List: []int{0, 7, 10, 255}}, "write 0 7 10 255"},
		{impl.Act{Kind: impl.AcWrite, List: zeros(12)}, "write 0 0 0 0 0 0 0 0 0 0 0 0"},
		{impl.Act{Kind: impl.AcSeek}, "seek 0 0"},
		{impl.Act{Kind: impl.AcSeek, N: -60, Whence: impl.SkEnd}, "seek -60 2"},
		{impl.Act{Kind: impl.AcSeek, N: 60, Whence: impl.SkNow}, "seek 60 1"},
		{impl.Act{Kind: impl.AcCut, List: []int{}}, "cut 0"},
		{impl.Act{Kind: impl.AcCut, N: 60}, "cut 60"},
		{impl.Act{Kind: impl.AcFlush}, "flush"},
		{impl.Act{Kind: impl.AcTell, List: []int{}}, "tell"},
	} {
		if got := impl.ActText(c.a); got != c.text {
			t.Errorf("ActText(%v) = %q, not %q", c.a, got, c.text)
		}
	}
}

func TestActsWrong(t *testing.T) {
	for _, a := range someActs() {
		if !impl.ValidAct(a) {
			t.Errorf("ValidAct(%v) = false", a)
		}
	}
	for _, a := range wrongActs() {
		if text := impl.ActText(a); impl.ValidAct(a) || text != "" {
			t.Errorf("ValidAct(%v) = true, or its text %q", a, text)
		}
	}
}

// Promise 80: ActText has a space for each number of the act.
func TestPromise80TextsOfActsTellThemApart(t *testing.T) {
	texts := map[string]impl.Act{}
	for _, a := range someActs() {
		text := impl.ActText(a)
		if n := strings.Count(text, " "); n != len(numbersOfAct(a)) || text == "" {
			t.Errorf("ActText(%v) = %q, with %d spaces", a, text, n)
		}
		if b, ok := texts[text]; ok {
			t.Errorf("%v and %v have the text %q", a, b, text)
		}
		texts[text] = a
	}
}

// writeText matches the texts of acts that write; textsOfActs has all others.
var writeText = regexp.MustCompile(`\Awrite( (0|[1-9][0-9]?|1[0-9][0-9]|2[0-4][0-9]|25[0-5])){0,12}\z`)

// changedTexts returns texts that differ from a text in one byte: with one left
// out, put in, or in the place of another.
func changedTexts(text string) []string {
	others := " 0123456789-+\n\r\tedEkx.,_\x00\xff"
	var out []string
	for i := 0; i <= len(text); i++ {
		for k := range len(others) {
			c := others[k : k+1]
			out = append(out, text[:i]+c+text[i:])
			if i < len(text) {
				out = append(out, text[:i]+c+text[i+1:])
			}
		}
		if i < len(text) {
			out = append(out, text[:i]+text[i+1:])
		}
	}
	return out
}

// checkParse checks that a text is that of an act exactly if it is known as one.
func checkParse(t *testing.T, text string, known map[string]impl.Act) bool {
	t.Helper()
	a, ok := impl.ParseAct(text)
	want, wantOk := known[text]
	if wantOk && !sameAct(a, want) || !wantOk && writeText.MatchString(text) && a.Kind != impl.AcWrite {
		t.Errorf("ParseAct(%q) = %v, %v", text, a, ok)
	}
	if wantOk = wantOk || writeText.MatchString(text); ok != wantOk {
		t.Errorf("ParseAct(%q) = %v, %v", text, a, ok)
	}
	if ok && impl.ActText(a) != text {
		t.Errorf("ActText of ParseAct(%q) = %q", text, impl.ActText(a))
	}
	if !ok && !sameAct(a, impl.Act{}) {
		t.Errorf("ParseAct(%q) = %v, false", text, a)
	}
	return ok
}

// Promise 81: ActText of ParseAct is the text.
func TestPromise81ActsAreWrittenBack(t *testing.T) {
	known := textsOfActs()
	right, wrong := 0, 0
	for _, a := range someActs() {
		for _, text := range changedTexts(impl.ActText(a)) {
			if checkParse(t, text, known) {
				right++
			} else {
				wrong++
			}
		}
	}
	if right < 100 || wrong < 1000 {
		t.Errorf("%d texts are right, and %d are none", right, wrong)
	}
}

// Texts that are none, for one reason each.
func TestParseActOfWrongTexts(t *testing.T) {
	for _, text := range []string{
		"", " ", "\n", "-", "0", "3", "stop", "r", "readwrite",
		// Too few numbers, or too many.
		"read", "read 3 4", "read 3 0", "read 0 0", "cut", "cut 1 2", "cut 1 0", "seek", "seek 1", "seek 0", "seek 1 0 0", "seek 0 0 0",
		"flush 0", "flush 1", "tell 0", "tell 1", "flush 0 0", "tell 1 2 3", "write 0 1 2 3 4 5 6 7 8 9 10 11 12", "write" + strings.Repeat(" 0", 13),
		// Numbers that are too small, or too great.
		"read -1", "read 61", "cut -1", "cut 61", "seek -61 0", "seek 61 0", "seek 0 -1", "seek 0 3", "write -1", "write 256", "write 1 256", "write 0 1 -1",
		// Spaces that are too many, or in the wrong place.
		"read  3", " read 3", "read 3 ", "write  1", "write 1  2", "write ", "write 1 ", " write", "seek  1 0", "seek 1  0", "seek 1 0 ", "flush ", "tell ", " tell", " flush", "  ", "re ad 3",
		// Numbers that are written in another way.
		"read 03", "read 00", "read +3", "read -0", "read +0", "read -", "read +", "read - 3", "read 3.", "read 3.0", "read 3e0", "read 0x3", "read 0b1", "read 0o7", "read 1_0",
		"read ³", "read ３", "read ٣", "read three",
		"cut 007", "seek -0 0", "seek 01 0", "seek -01 0", "seek +1 0", "seek --1 0", "seek 1 00", "seek 1 +0", "seek 1 -0", "seek 1 02", "write 01", "write 1 00", "write -0", "write 1 +2",
		// Numbers that are too long, which may wrap around to others.
		"read 100", "read 1000000000000000000000", "read 18446744073709551616", "read 18446744073709551619", "read 9223372036854775807", "read 9223372036854775808", "cut 4294967296", "cut 4294967299",
		"seek -18446744073709551615 0", "seek -9223372036854775808 0", "seek 0 18446744073709551617", "write 18446744073709551616", "write 00000000000000000000000000000000000001", "write 1000",
		// Words in other letters, or that are not whole.
		"Read 3", "READ 3", "rEad 3", "Tell", "FLUSH", "telL", "rea 3", "reads 3", "tel", "tells", "flus", "writ 1", "writes", "w", "seeks 0 0", "cutt 3", "cu 3", "read3", "write1", "ｔell",
		// Letters behind a number, or between.
		"read 3x", "read 3k", "read x3", "read 3 x", "write 1a", "write a", "write 1 b 2", "seek 1 0x", "seek 1x 0", "cut 1o", "read 3;", "read,3", "read=3", "read(3)",
		// Newlines, and what may be taken for a space.
		"read 3\n", "\nread 3", "read\n3", "tell\n", "\ntell", "te\nll", "write 1\n2", "write 1 2\n", "seek 1\n0", "flush\n\n", "tell\ntell",
		"read 3\r", "tell\r", "read\t3", "tell\t", "write 1\t2", "read\u00a03", "read 3\x00", "\x00tell", "tell\x00", "read 3\v", "\ufefftell",
	} {
		if a, ok := impl.ParseAct(text); ok || !sameAct(a, impl.Act{}) {
			t.Errorf("ParseAct(%q) = %v, %v", text, a, ok)
		}
	}
	for _, text := range []string{strings.Repeat(" ", 5000), "write" + strings.Repeat(" 1", 5000), "read " + strings.Repeat("9", 5000), strings.Repeat("tell", 5000)} {
		if a, ok := impl.ParseAct(text); ok || !sameAct(a, impl.Act{}) {
			t.Errorf("ParseAct(%.20q...) = %v, %v", text, a, ok)
		}
	}
}

// act does an act, and tells its answer.
func (m *bothModel) act(a impl.Act) string {
	switch a.Kind {
	case impl.AcRead:
		list, st := m.read(a.N)
		return said(st, list...)
	case impl.AcWrite:
		n, st := m.take(a.List)
		return said(st, n)
	case impl.AcSeek:
		return said(m.seek(a.N, a.Whence))
	case impl.AcCut:
		return said(m.cut(a.N))
	case impl.AcFlush:
		return said(m.flush())
	}
	return fmt.Sprint(m.plain().At)
}

// sessionFiles returns valid files that may begin to work: fewer than someBoths,
// but for each kind of place, room, script and buffer some.
func sessionFiles() []impl.Both {
	scripts := [][]int{nil, {3, 1, 2}, {0, 0, 5}, {2, -1, 1, 0}}
	var out []impl.Both
	for _, n := range []int{0, 5, 24, 60} {
		for _, at := range []int{0, 1, 4, 20, 59, 60} {
			for i, script := range scripts {
				out = append(out, bothsOf(atPlace(counted(n), at, []int{lastBothStep, 1, 0, 0}[i], script...))...)
			}
		}
	}
	return out
}

// Promise 82: DoAct leaves a valid file, and changes Data of PlainOf only for
// AcWrite and AcCut.
func TestPromise82ActsAreOfFiles(t *testing.T) {
	answers := map[string]int{}
	for _, b := range sessionFiles() {
		p := impl.PlainOf(b)
		for _, a := range someActs() {
			next, answer := impl.DoAct(b, a)
			m := bothModelOf(b)
			if want := m.act(a); answer != want || !sameBoth(next, m.both()) {
				t.Fatalf("DoAct(%v, %v) = %v, %q, not %v, %q", b, a, next, answer, m.both(), want)
			}
			if !impl.ValidBoth(next) {
				t.Fatalf("DoAct(%v, %v) = %v, which is not valid", b, a, next)
			}
			if changes := a.Kind == impl.AcWrite || a.Kind == impl.AcCut; !changes && !slices.Equal(impl.PlainOf(next).Data, p.Data) {
				t.Fatalf("DoAct(%v, %v) = %v, which is seen as %v, not %v", b, a, next, impl.PlainOf(next), p)
			}
			word, _, _ := strings.Cut(answer, " ")
			answers[word]++
		}
	}
	for _, word := range []string{"ok", "end", "none", "fault", "full", "wrong", "0", "60"} {
		if answers[word] == 0 {
			t.Errorf("no answer was %q", word)
		}
	}
}

// isFull reports whether there is no room for an act, or for what was taken ahead of it.
func isFull(p impl.Plain, a impl.Act) bool {
	return p.At > impl.MaxData || a.Kind == impl.AcWrite && p.At+len(a.List) > impl.MaxData
}

// Promise 83: for a smooth device that is not full DoAct gives the answer of
// DoPlain, and PlainOf it is the plain file after that.
func TestPromise83SmoothFilesArePlainOnes(t *testing.T) {
	seen := map[int]int{}
	for _, b := range sessionFiles() {
		if !impl.IsSmooth(b.Dev) {
			continue
		}
		for _, a := range someActs() {
			p := impl.PlainOf(b)
			if isFull(p, a) {
				continue
			}
			next, answer := impl.DoAct(b, a)
			plain, want := impl.DoPlain(p, a)
			if answer != want || !samePlain(impl.PlainOf(next), plain) {
				t.Fatalf("DoAct(%v, %v) = %v, %q, not %v, %q", b, a, next, answer, plain, want)
			}
			seen[a.Kind]++
		}
	}
	if len(seen) != 6 {
		t.Errorf("kinds of acts: %v", seen)
	}
}

// plainModel is a plain file that works byte by byte.
type plainModel struct {
	data []int
	at   int
}

// act does an act, and tells its answer.
func (m *plainModel) act(a impl.Act) string {
	switch a.Kind {
	case impl.AcRead:
		var list []int
		for ; len(list) < a.N && m.at < len(m.data); m.at++ {
			list = append(list, m.data[m.at])
		}
		if len(list) < a.N {
			return said(impl.StEnd, list...)
		}
		return said(impl.StOk, list...)
	case impl.AcWrite:
		for i, n := range a.List {
			if m.at == impl.MaxData {
				return said(impl.StFull, i)
			}
			for len(m.data) <= m.at {
				m.data = append(m.data, 0)
			}
			m.data[m.at] = n
			m.at++
		}
		return said(impl.StOk, len(a.List))
	case impl.AcSeek:
		place := a.N + []int{impl.SkStart: 0, impl.SkNow: m.at, impl.SkEnd: len(m.data)}[a.Whence]
		if place < 0 || place > impl.MaxData {
			return said(impl.StWrong)
		}
		m.at = place
	case impl.AcCut:
		m.data = joined(m.data, zeros(impl.MaxData))[:a.N]
	case impl.AcTell:
		return fmt.Sprint(m.at)
	}
	return said(impl.StOk)
}

func TestDoPlainAsByteByByte(t *testing.T) {
	for _, p := range somePlains() {
		for _, a := range someActs() {
			next, answer := impl.DoPlain(p, a)
			m := &plainModel{data: slices.Clone(p.Data), at: p.At}
			want := m.act(a)
			if after := (impl.Plain{Data: m.data, At: m.at}); answer != want || !samePlain(next, after) {
				t.Fatalf("DoPlain(%v, %v) = %v, %q, not %v, %q", p, a, next, answer, after, want)
			}
		}
	}
}

// Promise 84: DoPlain of AcTell after an act is At, and AcFlush changes nothing.
func TestPromise84PlainFilesAreToldTheirPlace(t *testing.T) {
	for _, p := range somePlains() {
		for _, a := range someActs() {
			after, _ := impl.DoPlain(p, a)
			next, answer := impl.DoPlain(after, act(impl.AcTell))
			if answer != fmt.Sprint(after.At) || !samePlain(next, after) {
				t.Fatalf("DoPlain(%v) of AcTell = %v, %q", after, next, answer)
			}
			next, answer = impl.DoPlain(after, act(impl.AcFlush))
			if answer != "ok" || !samePlain(next, after) {
				t.Fatalf("DoPlain(%v) of AcFlush = %v, %q", after, next, answer)
			}
		}
	}
}

// actsOfLines returns the acts of a text, read byte by byte.
func actsOfLines(s string) []impl.Act {
	var out []impl.Act
	begin := 0
	for i := 0; i < len(s); i++ {
		if s[i] != 10 {
			continue
		}
		a, ok := impl.ParseAct(s[begin:i])
		if !ok || len(out) == 20 {
			break
		}
		out = append(out, a)
		begin = i + 1
	}
	return out
}

// sessionTexts returns texts of acts: without a line, with empty lines, with
// lines that are none, without a newline behind the last one, and with too many.
func sessionTexts() []string {
	var all strings.Builder
	for _, a := range someActs() {
		all.WriteString(impl.ActText(a) + "\n")
	}
	ten := "read 3\nwrite 7 8\ntell\nseek -4 1\nread 1\nflush\ncut 4\nread 9\nseek -9 2\nwrite\n"
	return []string{
		"", "\n", "\n\n", "tell", "tell\n", "tell\n\n", "tell\n\ntell\n", "\ntell\n", "tell\ntell", "tell\ntell\n", "tell\nread",
		"stop\ntell\n", "tell\nstop\ntell\n", "tell\ntell\nstop\n", "stop\n", "stop", "tell\r\ntell\r\n", "tell\n tell\n", "tell \n", "tell\nread 61\ntell\n",
		ten, ten + ten, ten + ten + "tell\n", ten + ten + "stop\n", ten + ten + ten, ten + "\n" + ten, ten + strings.TrimSuffix(ten, "\n"), ten + "stop\n" + ten,
		all.String(), strings.Repeat("tell\n", 19) + "stop\ntell\n", strings.Repeat("tell\n", 20) + "\n", strings.Repeat("flush\n", 5000), strings.Repeat("\n", 5000), strings.Repeat("x", 5000),
	}
}

// Promise 85: ActsIn are the ParseAct of lines, and of ActText of all of them,
// each with a newline, they are the same.
func TestPromise85ActsAreLines(t *testing.T) {
	for _, s := range sessionTexts() {
		acts := impl.ActsIn(s)
		if want := actsOfLines(s); !sameActs(acts, want) {
			t.Errorf("ActsIn(%.80q) = %v, not %v", s, acts, want)
		}
		again := ""
		for _, a := range acts {
			again += impl.ActText(a) + "\n"
		}
		if got := impl.ActsIn(again); !sameActs(got, acts) || !strings.HasPrefix(s, again) {
			t.Errorf("ActsIn(%.80q) = %v, not %v", again, got, acts)
		}
	}
}

func TestActsIn(t *testing.T) {
	tell, read := act(impl.AcTell), act(impl.AcRead, 1)
	for _, c := range []struct {
		s    string
		want []impl.Act
	}{
		{"", nil},
		{"\n", nil},
		{"tell", nil},
		{"tell\n", []impl.Act{tell}},
		{"tell\nread 1", []impl.Act{tell}},
		{"tell\nread 1\n", []impl.Act{tell, read}},
		{"\ntell\n", nil},
		{"tell\n\nread 1\n", []impl.Act{tell}},
		{"tell\nread 1\n\n", []impl.Act{tell, read}},
		{"stop\ntell\n", nil},
		{"read 1\nstop\ntell\n", []impl.Act{read}},
		{"read 1\ntell\nstop\n", []impl.Act{read, tell}},
		{"read 1\ntell\nstop", []impl.Act{read, tell}},
		{"read 1\nread  1\n", []impl.Act{read}},
		{"tell\r\n", nil},
		{"write 1 2 3\nseek -1 2\n", []impl.Act{act(impl.AcWrite, 1, 2, 3), act(impl.AcSeek, -1, 2)}},
		{"write\nflush\n", []impl.Act{act(impl.AcWrite), act(impl.AcFlush)}},
	} {
		if got := impl.ActsIn(c.s); !sameActs(got, c.want) {
			t.Errorf("ActsIn(%q) = %v, not %v", c.s, got, c.want)
		}
	}
	for n := range 25 {
		s := strings.Repeat("read 1\n", n)
		for _, more := range []string{"", "read 1", "stop\n", "\n"} {
			if got := impl.ActsIn(s + more); !sameActs(got, slices.Repeat([]impl.Act{read}, min(n, 20))) {
				t.Errorf("ActsIn of %d lines and %q = %v", n, more, got)
			}
		}
	}
}

// actDone is one of several acts with a file, one after the other: its text, its
// answer, and the bytes of the device, its place, its number of calls, what is
// read ahead and what is not written yet.
type actDone struct {
	text     string
	answer   string
	data     []int
	at, step int
	in, out  []int
}

// checkActs checks acts with a file, one after the other.
func checkActs(t *testing.T, b impl.Both, acts []actDone) {
	t.Helper()
	for i, a := range acts {
		parsed, ok := impl.ParseAct(a.text)
		next, answer := impl.DoAct(b, parsed)
		want := bothOf(atPlace(a.data, a.at, a.step, b.Dev.Script...), a.in, a.out, b.Size)
		if !ok || answer != a.answer || !sameBoth(next, want) {
			t.Errorf("act %d, %q, was answered %q and left %v", i, a.text, answer, next)
		}
		b = next
	}
}

// Acts after bytes were read ahead, and with something to write.
func TestDoAct(t *testing.T) {
	six := []int{1, 2, 3, 4, 5, 6}
	written := []int{1, 2, 7, 8, 5, 6}
	long := []int{1, 2, 7, 8, 0, 9, 0, 0}
	checkActs(t, bothOf(atPlace(six, 0, 0), nil, nil, 4), []actDone{
		{"read 2", "ok 1 2", six, 4, 1, []int{3, 4}, nil},
		{"tell", "2", six, 4, 1, []int{3, 4}, nil},
		{"flush", "ok", six, 4, 1, []int{3, 4}, nil},
		{"read 0", "ok", six, 4, 1, []int{3, 4}, nil},
		{"write 7 8", "ok 2", six, 2, 1, nil, []int{7, 8}},
		{"tell", "4", six, 2, 1, nil, []int{7, 8}},
		{"read 1", "ok 5", written, 6, 3, []int{6}, nil},
		{"cut 4", "ok", []int{1, 2, 7, 8}, 5, 3, nil, nil},
		{"tell", "5", []int{1, 2, 7, 8}, 5, 3, nil, nil},
		{"write 9", "ok 1", []int{1, 2, 7, 8}, 5, 3, nil, []int{9}},
		{"cut 8", "ok", long, 6, 4, nil, nil},
		{"read 9", "end 0 0", long, 8, 6, nil, nil},
		{"write", "ok 0", long, 8, 6, nil, nil},
		{"seek -3 1", "ok", long, 5, 6, nil, nil},
		{"seek -6 1", "wrong", long, 5, 6, nil, nil},
		{"seek 53 2", "wrong", long, 5, 6, nil, nil},
		{"seek 52 2", "ok", long, 60, 6, nil, nil},
		{"seek 1 1", "wrong", long, 60, 6, nil, nil},
		{"read 1", "end", long, 60, 7, nil, nil},
		{"seek 2 0", "ok", long, 2, 7, nil, nil},
		{"read 1", "ok 7", long, 6, 8, []int{8, 0, 9}, nil},
		{"write", "ok 0", long, 3, 8, nil, nil},
	})
	// Of a buffer of one byte each is written when the next one is taken.
	checkActs(t, bothOf(atPlace([]int{1, 2}, 2, 0), nil, nil, 1), []actDone{
		{"write 7 8 9", "ok 3", []int{1, 2, 7, 8}, 4, 2, nil, []int{9}},
		{"seek -1 0", "wrong", []int{1, 2, 7, 8, 9}, 5, 3, nil, nil},
		{"write 6", "ok 1", []int{1, 2, 7, 8, 9}, 5, 3, nil, []int{6}},
		{"flush", "ok", []int{1, 2, 7, 8, 9, 6}, 6, 4, nil, nil},
		{"flush", "ok", []int{1, 2, 7, 8, 9, 6}, 6, 4, nil, nil},
	})
}

// Scripts that give none, faults and fewer bytes stop an act where it is.
func TestDoActByScript(t *testing.T) {
	five := []int{1, 2, 3, 4, 5}
	seven := []int{1, 7, 3, 4, 5}
	checkActs(t, bothOf(atPlace(five, 0, 0, 0, 1, -1, 1, 0, 0, -1, 1, 60, 0, 60), nil, nil, 2), []actDone{
		{"read 1", "none", five, 0, 1, nil, nil},
		{"read 2", "fault 1", five, 1, 3, nil, nil},
		{"write 7 8", "ok 2", five, 1, 3, nil, []int{7, 8}},
		{"write 9 6", "none 1", seven, 2, 6, nil, []int{8, 9}},
		{"tell", "4", seven, 2, 6, nil, []int{8, 9}},
		{"write 6", "fault 0", seven, 2, 7, nil, []int{8, 9}},
		{"cut 0", "ok", nil, 4, 9, nil, nil},
		{"read 0", "ok", nil, 4, 9, nil, nil},
		{"read 1", "none", nil, 4, 10, nil, nil},
		{"read 1", "end", nil, 4, 11, nil, nil},
	})
	checkActs(t, bothOf(atPlace(five, 1, 0, 1, 0, -1, 0, -1, 1, 1, 2, 0), nil, []int{7, 8}, 2), []actDone{
		{"flush", "none", seven, 2, 2, nil, []int{8}},
		{"read 0", "fault", seven, 2, 3, nil, []int{8}},
		{"seek 0 0", "none", seven, 2, 4, nil, []int{8}},
		{"cut 3", "fault", seven, 2, 5, nil, []int{8}},
		{"tell", "3", seven, 2, 5, nil, []int{8}},
		{"read 3", "none 4 5", []int{1, 7, 8, 4, 5}, 5, 9, nil, nil},
		{"read 3", "end", []int{1, 7, 8, 4, 5}, 5, 10, nil, nil},
	})
}

// A device without room takes what the buffer has room for, and then nothing.
func TestDoActWithoutRoom(t *testing.T) {
	full := joined(counted(59), []int{1})
	checkActs(t, bothOf(atPlace(counted(60), 0, 0), nil, nil, 16), []actDone{
		{"seek -1 2", "ok", counted(60), 59, 0, nil, nil},
		{"write 1 2 3", "ok 3", counted(60), 59, 0, nil, []int{1, 2, 3}},
		{"tell", "62", counted(60), 59, 0, nil, []int{1, 2, 3}},
		{"flush", "full", full, 60, 2, nil, []int{2, 3}},
		{"read 0", "full", full, 60, 3, nil, []int{2, 3}},
		{"cut 0", "full", full, 60, 4, nil, []int{2, 3}},
		{"seek 0 0", "full", full, 60, 5, nil, []int{2, 3}},
		{"write 4", "ok 1", full, 60, 5, nil, []int{2, 3, 4}},
		{"tell", "63", full, 60, 5, nil, []int{2, 3, 4}},
	})
	checkActs(t, bothOf(atPlace(counted(60), 59, 0), nil, nil, 1), []actDone{
		{"write 1 2 3", "full 2", full, 60, 2, nil, []int{2}},
		{"write 3", "full 0", full, 60, 3, nil, []int{2}},
		{"write", "ok 0", full, 60, 3, nil, []int{2}},
		{"tell", "61", full, 60, 3, nil, []int{2}},
	})
	checkActs(t, bothOf(atPlace(nil, 60, 0), nil, []int{1, 2}, 3), []actDone{
		{"write 3 4 5", "full 1", nil, 60, 1, nil, []int{1, 2, 3}},
	})
	// A gap is filled when something is written behind it.
	checkActs(t, bothOf(atPlace(nil, 0, 0), nil, nil, 16), []actDone{
		{"seek 58 0", "ok", nil, 58, 0, nil, nil},
		{"write 1 2", "ok 2", nil, 58, 0, nil, []int{1, 2}},
		{"flush", "ok", joined(zeros(58), []int{1, 2}), 60, 1, nil, nil},
		{"write", "ok 0", joined(zeros(58), []int{1, 2}), 60, 1, nil, nil},
		{"read 60", "end", joined(zeros(58), []int{1, 2}), 60, 2, nil, nil},
	})
}

// plainDone is one of several acts with a plain file, one after the other: its
// text, its answer, and the bytes and the place of the file.
type plainDone struct {
	text   string
	answer string
	data   []int
	at     int
}

// checkPlainActs checks acts with a plain file, one after the other.
func checkPlainActs(t *testing.T, p impl.Plain, acts []plainDone) {
	t.Helper()
	for i, a := range acts {
		parsed, ok := impl.ParseAct(a.text)
		next, answer := impl.DoPlain(p, parsed)
		if !ok || answer != a.answer || !samePlain(next, impl.Plain{Data: a.data, At: a.at}) {
			t.Errorf("act %d, %q, was answered %q and left %v", i, a.text, answer, next)
		}
		p = next
	}
}

func TestDoPlain(t *testing.T) {
	three := []int{1, 2, 3}
	gap := []int{1, 7, 0, 8}
	checkPlainActs(t, impl.Plain{Data: three}, []plainDone{
		{"tell", "0", three, 0},
		{"read 0", "ok", three, 0},
		{"read 2", "ok 1 2", three, 2},
		{"flush", "ok", three, 2},
		{"read 2", "end 3", three, 3},
		{"read 1", "end", three, 3},
		{"read 0", "ok", three, 3},
		{"seek -4 2", "wrong", three, 3},
		{"seek -2 1", "ok", three, 1},
		{"write", "ok 0", three, 1},
		{"write 7", "ok 1", []int{1, 7, 3}, 2},
		{"cut 2", "ok", []int{1, 7}, 2},
		{"seek 1 2", "ok", []int{1, 7}, 3},
		{"write", "ok 0", []int{1, 7}, 3},
		{"write 8", "ok 1", gap, 4},
		{"seek 57 1", "wrong", gap, 4},
		{"seek 56 1", "ok", gap, 60},
		{"write 9", "full 0", gap, 60},
		{"write", "ok 0", gap, 60},
		{"tell", "60", gap, 60},
		{"read 60", "end", gap, 60},
		{"cut 60", "ok", joined(gap, zeros(56)), 60},
		{"seek -1 2", "ok", joined(gap, zeros(56)), 59},
		{"write 5 6", "full 1", joined(gap, zeros(55), []int{5}), 60},
		{"cut 0", "ok", nil, 60},
		{"seek 0 2", "ok", nil, 0},
		{"seek -1 0", "wrong", nil, 0},
	})
}

// A file at Step MaxCalls-2*MaxMore does all acts, and one with one more none.
func TestDoActAtTheLastStep(t *testing.T) {
	data := joined([]int{201}, counted(60)[1:])
	for _, c := range []actDone{
		{"read 60", spaced("end", counted(60)[1:]...), data, 60, lastBothStep + 61, nil, nil},
		{"write 7 8", "ok 2", joined([]int{201, 7}, counted(60)[2:]), 2, lastBothStep + 2, nil, []int{8}},
		{"seek 3 1", "ok", data, 4, lastBothStep + 1, nil, nil},
		{"cut 1", "ok", []int{201}, 1, lastBothStep + 1, nil, nil},
		{"flush", "ok", data, 1, lastBothStep + 1, nil, nil},
		{"tell", "1", counted(60), 0, lastBothStep, nil, []int{201}},
	} {
		checkActs(t, bothWriting(atPlace(counted(60), 0, lastBothStep), 1, 1), []actDone{c})
	}
	for _, step := range []int{lastBothStep + 1, lastStep, lastStep + 1, 999, 1000} {
		for _, d := range []impl.Device{atPlace(counted(24), 8, step), atPlace(nil, 0, step, 1, 0)} {
			checkNoAnswer(t, impl.DoAct, isZeroBoth, bothsOf(d), someActs())
		}
	}
}

// checkNoAnswer checks that none of the acts is done with any of the files.
func checkNoAnswer[F any](t *testing.T, do func(F, impl.Act) (F, string), isZero func(F) bool, files []F, acts []impl.Act) {
	t.Helper()
	for _, f := range files {
		for _, a := range acts {
			if next, answer := do(f, a); !isZero(next) || answer != "" {
				t.Errorf("%v of %v is %v, and the answer is %q", a, f, next, answer)
			}
		}
	}
}

func TestDoActWrong(t *testing.T) {
	checkNoAnswer(t, impl.DoAct, isZeroBoth, wrongBoths(), someActs())
	checkNoAnswer(t, impl.DoAct, isZeroBoth, wrongBoths(), wrongActs())
	// Acts that are wrong are told ahead of a flush, however that would end.
	checkNoAnswer(t, impl.DoAct, isZeroBoth, bothsOf(atPlace(counted(24), 8, 0, 0, -1)), wrongActs())
	checkNoAnswer(t, impl.DoAct, isZeroBoth, bothsOf(atPlace(counted(24), 8, 0)), wrongActs())
}

func TestDoPlainWrong(t *testing.T) {
	isZeroPlain := func(p impl.Plain) bool { return samePlain(p, impl.Plain{}) }
	checkNoAnswer(t, impl.DoPlain, isZeroPlain, wrongPlains(), someActs())
	checkNoAnswer(t, impl.DoPlain, isZeroPlain, wrongPlains(), wrongActs())
	checkNoAnswer(t, impl.DoPlain, isZeroPlain, somePlains(), wrongActs())
}

// answersBy returns the answers of a model to the acts of a text.
func answersBy(s string, act func(a impl.Act) string) string {
	out := ""
	for _, a := range actsOfLines(s) {
		out += act(a) + "\n"
	}
	return out
}

// fileAnswers returns the answers of a new file that works byte by byte. From
// where there are too few calls left on it has none, but its lines stay.
func fileAnswers(d impl.Device, size int, s string) string {
	m := bothModelOf(bothOf(d, nil, nil, size))
	return answersBy(s, func(a impl.Act) string {
		if m.dev.Step > lastBothStep {
			return ""
		}
		return m.act(a)
	})
}

// plainAnswers returns the answers of a plain file that works byte by byte.
func plainAnswers(data []int, s string) string {
	m := &plainModel{data: slices.Clone(data)}
	return answersBy(s, m.act)
}

// runDevices returns valid devices: smooth ones and others, in, at and behind the
// end, with all calls to come, and with too few of them for a whole text.
func runDevices() []impl.Device {
	var out []impl.Device
	for _, n := range []int{0, 5, 60} {
		for _, at := range []int{0, 2, 59, 60} {
			for _, script := range [][]int{nil, {3, 1, 2}, {0, 2, -1, 60, 0, 1}, zeros(12)} {
				for _, step := range []int{0, 1, lastBothStep - 20, lastBothStep, lastBothStep + 1, 1000} {
					out = append(out, atPlace(counted(n), at, step, script...))
				}
			}
		}
	}
	return out
}

// Promise 86: RunFile has as many newlines as ActsIn, if there is a file.
func TestPromise86EachActOfAFileHasAnAnswer(t *testing.T) {
	texts := sessionTexts()
	for _, d := range runDevices() {
		for _, s := range texts {
			for _, size := range []int{1, 3, 16} {
				got, want := impl.RunFile(d, size, s), fileAnswers(d, size, s)
				if strings.Count(got, "\n") != len(impl.ActsIn(s)) || got != want {
					t.Fatalf("RunFile(%v, %d, %.80q) = %q, not %q", d, size, s, got, want)
				}
			}
		}
	}
}

// lines returns acts as lines.
func lines(acts ...string) string {
	return strings.Join(acts, "\n") + "\n"
}

func TestRunFile(t *testing.T) {
	five := []int{1, 2, 3, 4, 5}
	for _, c := range []struct {
		d     impl.Device
		size  int
		acts  []string
		lines []string
	}{
		// Reads of no byte, of one, of more than there are, and behind the end.
		{atPlace(five, 0, 0), 16, []string{"read 0", "read 1", "read 60", "read 1", "tell"}, []string{"ok", "ok 1", "end 2 3 4 5", "end", "5"}},
		{atPlace(five, 3, 0), 1, []string{"tell", "read 2", "read 0"}, []string{"3", "ok 4 5", "ok"}},
		{atPlace(nil, 0, 0), 1, []string{"read 1", "write 7", "read 1", "seek 0 0", "read 1"}, []string{"end", "ok 1", "end", "ok", "ok 7"}},
		{atPlace(counted(60), 0, 0), 16, []string{"read 60", "read 1", "write 1", "write", "tell"}, []string{spaced("ok", counted(60)...), "end", "ok 1", "ok 0", "61"}},
		// Scripts: fewer bytes, none, faults, and zeros.
		{atPlace(five, 0, 0, 1, 1, 1), 16, []string{"read 2", "read 4"}, []string{"ok 1 2", "end 3 4 5"}},
		{atPlace(five, 0, 0, 2, -1, 0), 16, []string{"read 3", "read 3", "read 3"}, []string{"fault 1 2", "none", "ok 3 4 5"}},
		{atPlace(five, 0, 0, zeros(12)...), 4, slices.Repeat([]string{"read 1"}, 14), append(slices.Repeat([]string{"none"}, 12), "ok 1", "ok 2")},
		{atPlace(five, 0, 0, zeros(12)...), 1, []string{"write 7 8 9", "write 5", "write", "flush", "cut 0", "seek 0 0", "read 0", "tell"}, []string{"none 1", "none 0", "ok 0", "none", "none", "none", "none", "1"}},
		// Writes taken in part, and not at all, and places that are none.
		{atPlace(five, 0, 0, 0, 0, 60, -1), 2, []string{"write 7 8 9 6", "write 9", "write 9", "write 6 5", "tell"}, []string{"none 2", "none 0", "ok 1", "fault 1", "4"}},
		{atPlace(counted(60), 59, 0), 1, []string{"write 1 2 3", "write 3", "flush", "seek 0 0"}, []string{"full 2", "full 0", "full", "full"}},
		{atPlace(five, 0, 0), 3, []string{"seek -1 0", "tell", "seek 55 2", "seek 1 1", "seek 56 2", "tell"}, []string{"wrong", "0", "ok", "wrong", "wrong", "60"}},
		// What is behind a line that is none, or has no newline, is no act.
		{atPlace(five, 0, 0), 3, []string{"read 1", "read  1", "read 1"}, []string{"ok 1"}},
		{atPlace(five, 0, 0), 3, []string{"", "read 1"}, nil},
		{atPlace(five, 0, 0), 3, slices.Repeat([]string{"tell"}, 25), slices.Repeat([]string{"0"}, 20)},
		// Step is asked ahead of each act, not of all of them together.
		{atPlace(counted(60), 0, lastBothStep), 1, []string{"read 60", "tell", "read 1"}, []string{spaced("ok", counted(60)...), "", ""}},
		{atPlace(counted(60), 0, lastBothStep-2), 1, []string{"read 1", "read 1", "tell", "read 1", "tell", "tell"}, []string{"ok 1", "ok 8", "2", "ok 15", "", ""}},
		{atPlace(five, 0, lastBothStep+1), 1, []string{"tell", "flush", "read 0"}, []string{"", "", ""}},
		{atPlace(five, 0, 1000), 16, []string{"write 1"}, []string{""}},
	} {
		want := ""
		if len(c.lines) > 0 {
			want = lines(c.lines...)
		}
		if got := impl.RunFile(c.d, c.size, lines(c.acts...)); got != want {
			t.Errorf("RunFile(%v, %d, %q) = %q, not %q", c.d, c.size, c.acts, got, want)
		}
	}
}

func TestRunWrong(t *testing.T) {
	s := lines("tell", "read 1", "flush")
	for _, d := range wrongDevices() {
		if got := impl.RunFile(d, 4, s); got != "" {
			t.Errorf("RunFile(%v) = %q", d, got)
		}
	}
	for _, size := range append([]int{-1, 0, 17, 60}, huge...) {
		if got := impl.RunFile(atPlace(counted(5), 0, 0), size, s); got != "" {
			t.Errorf("RunFile of size %d = %q", size, got)
		}
	}
	for _, data := range wrongLists() {
		if got := impl.RunPlain(data, s); got != "" {
			t.Errorf("RunPlain(%v) = %q", data, got)
		}
	}
}

// smoothScripts are scripts of devices that always give.
func smoothScripts() [][]int {
	return [][]int{nil, {1}, {60}, {1, 3, 2}, {5, 1, 60, 1, 1, 2, 16, 1, 1, 1, 1, 1}}
}

// isNeverFull reports whether a plain file has room for all that a text writes.
func isNeverFull(data []int, s string) bool {
	m := &plainModel{data: slices.Clone(data)}
	return !strings.Contains(answersBy(s, m.act), "full")
}

// checkBuffers checks that buffers are not seen in the answers to a text.
func checkBuffers(t *testing.T, data []int, s string, sizes ...int) bool {
	t.Helper()
	if !isNeverFull(data, s) {
		return false
	}
	want := impl.RunPlain(data, s)
	for _, script := range smoothScripts() {
		for _, size := range sizes {
			if got := impl.RunFile(atPlace(data, 0, 0, script...), size, s); got != want {
				t.Fatalf("RunFile(%v, %v, %d, %q) = %q, not %q", data, script, size, s, got, want)
			}
		}
	}
	return true
}

// Promise 87: for a smooth device at its beginning, of few calls so far, RunFile
// of at most 10 acts is RunPlain of its bytes, whatever the size, if it is never full.
func TestPromise87BuffersAreNotSeen(t *testing.T) {
	some := []string{"read 0", "read 1", "read 3", "read 60", "write", "write 7", "write 201 202 203 204 205", "seek -1 1", "seek 2 0", "seek 1 2", "cut 2", "cut 9", "flush", "tell"}
	for _, a := range some {
		for _, b := range some {
			for _, c := range some {
				checkBuffers(t, counted(6), lines(a, b, c, "tell", "seek 0 0", "read 60"), 1, 2, 4, 16)
			}
		}
	}
	all := someActs()
	next := 1
	seen := 0
	for range 400 {
		s := ""
		for range 10 {
			// Any row of numbers does, as long as it is the same each time.
			next = next * 48271 % 2147483647
			s += impl.ActText(all[next%len(all)]) + "\n"
		}
		for _, data := range [][]int{nil, counted(5), counted(60)} {
			if checkBuffers(t, data, s, 1, 2, 3, 7, 15, 16) {
				seen++
			}
		}
	}
	if seen < 300 {
		t.Errorf("only %d texts are never full", seen)
	}
}

// Ten acts of many calls are done where Step, which is asked ahead of each of
// them, is not too great for the last one.
func TestPromise87OfManyCalls(t *testing.T) {
	s := strings.Repeat(lines("seek 0 0", "read 60"), 5)
	if want := impl.RunPlain(counted(59), s); impl.RunFile(atPlace(counted(59), 0, lastBothStep-4*60), 1, s) != want {
		t.Errorf("RunFile of the greatest Step is not %q", want)
	}
	if want := impl.RunPlain(counted(59), s); impl.RunFile(atPlace(counted(59), 0, lastBothStep-4*60+1), 1, s) == want {
		t.Errorf("RunFile of a greater Step is %q", want)
	}
}

// Promise 88: RunPlain has as many newlines as ActsIn, and of the first acts it
// is the beginning of that of all.
func TestPromise88EachActOfAPlainFileHasAnAnswer(t *testing.T) {
	for _, n := range []int{0, 1, 5, 59, 60} {
		for _, s := range sessionTexts() {
			got := impl.RunPlain(counted(n), s)
			acts := impl.ActsIn(s)
			if strings.Count(got, "\n") != len(acts) || got != plainAnswers(counted(n), s) {
				t.Errorf("RunPlain(%d bytes, %.80q) = %q", n, s, got)
			}
			first := ""
			for i, a := range acts {
				begin := impl.RunPlain(counted(n), first)
				if !strings.HasPrefix(got, begin) || strings.Count(begin, "\n") != i {
					t.Errorf("RunPlain(%d bytes, %.80q) = %q, not the beginning of %q", n, first, begin, got)
				}
				first += impl.ActText(a) + "\n"
			}
		}
	}
}

func TestRunPlain(t *testing.T) {
	for _, c := range []struct {
		data  []int
		acts  []string
		lines []string
	}{
		{nil, []string{"tell", "read 1", "write 7 8", "seek 0 0", "read 3"}, []string{"0", "end", "ok 2", "ok", "end 7 8"}},
		{[]int{0, 255}, []string{"read 2", "write 0 255", "seek -4 1", "read 4", "flush"}, []string{"ok 0 255", "ok 2", "ok", "ok 0 255 0 255", "ok"}},
		{counted(60), []string{"seek -1 2", "write 1 2 3", "flush", "read 0", "tell", "cut 60", "seek 0 0", "read 1"}, []string{"ok", "full 1", "ok", "ok", "60", "ok", "ok", "ok 1"}},
		{[]int{1, 2}, []string{"seek 60 0", "write 1", "seek 58 1", "seek 58 0", "write 9 8", "seek -3 2", "read 3"}, []string{"ok", "full 0", "wrong", "ok", "ok 2", "ok", "ok 0 9 8"}},
		{[]int{1, 2}, []string{"tell", "stop", "tell"}, []string{"0"}},
	} {
		if got, want := impl.RunPlain(c.data, lines(c.acts...)), lines(c.lines...); got != want {
			t.Errorf("RunPlain(%v, %q) = %q, not %q", c.data, c.acts, got, want)
		}
	}
}

// No function changes its arguments, no result shares memory with an argument,
// and no two slices of a result share memory.
func TestSessionResultsAreNew(t *testing.T) {
	for _, a := range someActs() {
		for _, script := range [][]int{{2, 5, 3, 60}, {2, 0}, {2, -1}} {
			for _, at := range []int{0, 4, 5, 59, 60} {
				for _, b := range bothsOf(atPlace(counted(5), at, 1, script...)) {
					given := impl.Both{Dev: impl.Device{Data: roomy(b.Dev.Data), At: at, Script: roomy(script), Step: 1}, In: roomy(b.In), Out: roomy(b.Out), Size: b.Size}
					asked := a
					asked.List = roomy(a.List)
					next, _ := impl.DoAct(given, asked)
					p, _ := impl.DoPlain(impl.Plain{Data: given.Dev.Data, At: at}, asked)
					impl.RunFile(given.Dev, 3, lines(impl.ActText(asked)))
					impl.RunPlain(given.Dev.Data, lines(impl.ActText(asked)))
					d := given.Dev
					if !intact(d.Data, b.Dev.Data) || !intact(d.Script, script) || !intact(given.In, b.In) || !intact(given.Out, b.Out) || !intact(asked.List, a.List) {
						t.Errorf("%v: an argument was changed", a)
					}
					checkApart(t, impl.ActText(a), d.Data, d.Script, given.In, given.Out, asked.List, next.Dev.Data, next.Dev.Script, next.In, next.Out, p.Data)
				}
			}
		}
	}
	s := strings.Repeat("write 1 2 3\n", 5)
	var lists [][]int
	for _, a := range append(impl.ActsIn(s), impl.ActsIn(s)...) {
		lists = append(lists, a.List)
	}
	checkApart(t, "ActsIn", lists...)
}
