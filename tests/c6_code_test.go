package tests

import (
	"slices"
	"testing"
	"unicode/utf8"

	"loop.example/streamlayers/impl"
)

// ways are the ways to decode.
var ways = []int{impl.DmStrict, impl.DmDrop, impl.DmMark, impl.DmKeep}

// waits are what may be ahead of bytes: nothing, and bytes that begin a point.
var waits = []int{0, 194, 195, 208, 222, 223}

// borderBytes are bytes at the borders of what they are to a point.
var borderBytes = []int{127, 128, 191, 192, 193, 194, 223, 224, 255}

// wrap is what a number of 64 bits loses as one of 32 bits.
const wrap = 1 << 32

// manyBytes returns lists of MaxData bytes and of one less, right and wrong
// ones, with points of two bytes at both ends and in between.
func manyBytes() [][]int {
	return [][]int{
		times(60, 65), times(60, 127), times(60, 128), times(60, 193), times(60, 194), times(60, 255), times(59, 223),
		times(30, 194, 128), times(30, 223, 191), times(30, 128, 194), times(20, 65, 195, 164), times(20, 195, 164, 65), times(20, 194, 194, 128),
		joined(times(59, 65), []int{194}), joined(times(59, 65), []int{128}), joined(times(29, 195, 164), []int{65, 200}), joined([]int{255}, times(29, 195, 164), []int{255}),
		joined(times(29, 195, 164), []int{65}), joined(times(29, 195, 164), []int{223}), counted(60), counted(59), taken(60),
	}
}

// codedLists returns lists of bytes, right and wrong ones: all of at most 4 bytes at the borders, and long ones.
func codedLists() [][]int {
	return append(shortLists(4, borderBytes...), manyBytes()...)
}

// pairLists returns all lists of two bytes.
func pairLists() [][]int {
	var out [][]int
	for first := range 256 {
		for second := range 256 {
			out = append(out, []int{first, second})
		}
	}
	return out
}

// pointLists returns lists of points, with points that stand for bytes that were wrong.
func pointLists() [][]int {
	return append(shortLists(3, 0, 65, 127, 128, 191, 192, 255, 256, 2046, 2047, 3128, 3194, 3195, 3255),
		times(60, 128), times(60, 2047), times(60, 127), times(60, 3255), times(30, 2047), times(30, 3194, 128), times(20, 65, 228), counted(60), counted(59))
}

// told is a point, or a byte that is wrong, and the index where it begins.
type told struct {
	at    int
	point int
	wrong bool
}

// toldAsUTF8 returns the points of bytes as the standard library tells them,
// for points up to MaxPoint have the same bytes in UTF-8.
func toldAsUTF8(list []int) []told {
	var text []byte
	for _, b := range list {
		if b >= 224 {
			// It would begin a point of more bytes in UTF-8, and is wrong here.
			b = 255
		}
		text = append(text, byte(b))
	}
	var out []told
	for i, r := range string(text) {
		if r == utf8.RuneError {
			out = append(out, told{at: i, point: list[i], wrong: true})
		} else {
			out = append(out, told{at: i, point: int(r)})
		}
	}
	return out
}

// someAsUTF8 returns what DecodeSome must.
func someAsUTF8(list []int, lead int, final bool, mode int) ([]int, int, bool) {
	if lead != 0 {
		list = joined([]int{lead}, list)
	}
	wait := 0
	if n := len(list); n > 0 && !final && list[n-1] >= 194 && list[n-1] <= 223 {
		wait = list[n-1]
		list = list[:n-1]
	}
	var out []int
	for _, p := range toldAsUTF8(list) {
		switch {
		case !p.wrong:
			out = append(out, p.point)
		case mode == impl.DmStrict:
			return out, 0, false
		case mode == impl.DmMark:
			out = append(out, 2047)
		case mode == impl.DmKeep:
			out = append(out, 3000+p.point)
		}
	}
	return out, wait, true
}

// checkSome checks what DecodeSome returns.
func checkSome(t *testing.T, list []int, lead int, final bool, mode int, want []int, wantWait int, wantOk bool) {
	t.Helper()
	points, wait, ok := impl.DecodeSome(list, lead, final, mode)
	if !slices.Equal(points, want) || wait != wantWait || ok != wantOk {
		t.Fatalf("DecodeSome(%v, %d, %v, %d) = %v, %d, %v, not %v, %d, %v", list, lead, final, mode, points, wait, ok, want, wantWait, wantOk)
	}
}

// decodedBy returns the points of bytes in a way that must be possible.
func decodedBy(t *testing.T, list []int, mode int) []int {
	t.Helper()
	points, ok := impl.DecodeBytes(list, mode)
	if !ok {
		t.Fatalf("DecodeBytes(%v, %d) = %v, false", list, mode, points)
	}
	return points
}

func TestConstantsOfCodes(t *testing.T) {
	if impl.MaxPoint != 2047 || impl.KeptByte != 3000 || impl.MarkPoint != 2047 {
		t.Errorf("the points are %d, %d, %d", impl.MaxPoint, impl.KeptByte, impl.MarkPoint)
	}
	if !slices.Equal(ways, []int{0, 1, 2, 3}) {
		t.Errorf("the ways to decode are %v", ways)
	}
}

func TestEachPoint(t *testing.T) {
	for point := range 2048 {
		var want []int
		for _, b := range utf8.AppendRune(nil, rune(point)) {
			want = append(want, int(b))
		}
		if out := impl.EncodePoints([]int{point}); !impl.ValidPoints([]int{point}) || !slices.Equal(out, want) {
			t.Errorf("EncodePoints of %d = %v, not %v", point, out, want)
		}
		for _, mode := range ways {
			if points, ok := impl.DecodeBytes(want, mode); !ok || !slices.Equal(points, []int{point}) {
				t.Errorf("DecodeBytes(%v, %d) = %v, %v, not %d", want, mode, points, ok, point)
			}
		}
		if out := impl.CleanPoints([]int{point}); !slices.Equal(out, []int{point}) {
			t.Errorf("CleanPoints of %d = %v", point, out)
		}
	}
}

func TestEachKeptByte(t *testing.T) {
	for b := 128; b <= 255; b++ {
		kept := []int{3000 + b}
		if out := impl.EncodePoints(kept); !impl.ValidPoints(kept) || !slices.Equal(out, []int{b}) {
			t.Errorf("EncodePoints(%v) = %v", kept, out)
		}
		if out := impl.CleanPoints(kept); !slices.Equal(out, []int{2047}) {
			t.Errorf("CleanPoints(%v) = %v", kept, out)
		}
	}
}

func TestDecodeSomeAsUTF8(t *testing.T) {
	for _, list := range codedLists() {
		for _, lead := range waits {
			for _, mode := range ways {
				for _, final := range []bool{false, true} {
					want, wait, ok := someAsUTF8(list, lead, final, mode)
					checkSome(t, list, lead, final, mode, want, wait, ok)
				}
			}
		}
	}
}

func TestDecodeSomeEachPair(t *testing.T) {
	for _, list := range pairLists() {
		for _, mode := range ways {
			for _, final := range []bool{false, true} {
				want, wait, ok := someAsUTF8(list, 0, final, mode)
				checkSome(t, list, 0, final, mode, want, wait, ok)
				// A byte that begins a point may come in another part.
				if first := list[0]; first >= 194 && first <= 223 {
					checkSome(t, list[1:], first, final, mode, want, wait, ok)
				}
			}
		}
	}
}

func TestPlacesAsUTF8(t *testing.T) {
	for _, list := range append(codedLists(), pairLists()...) {
		bad := -1
		var places []int
		at := make([]int, len(list))
		for _, p := range toldAsUTF8(list) {
			if p.wrong && bad < 0 {
				bad = p.at
			}
			places = append(places, p.at)
			for i := p.at; i < len(list); i++ {
				at[i] = p.at
			}
		}
		if got := impl.BadAt(list); got != bad {
			t.Fatalf("BadAt(%v) = %d, not %d", list, got, bad)
		}
		if got := impl.CountPoints(list); got != len(places) {
			t.Fatalf("CountPoints(%v) = %d, not %d", list, got, len(places))
		}
		if got := impl.PlacesOf(list); !slices.Equal(got, places) {
			t.Fatalf("PlacesOf(%v) = %v, not %v", list, got, places)
		}
		for i, want := range at {
			if got := impl.SyncAt(list, i); got != want {
				t.Fatalf("SyncAt(%v, %d) = %d, not %d", list, i, got, want)
			}
		}
	}
}

// Promise 58: valid points have EncodePoints, at most two bytes for each.
func TestPromise58PointsAreBytes(t *testing.T) {
	for _, list := range pointLists() {
		out := impl.EncodePoints(list)
		if !impl.ValidPoints(list) || len(out) < len(list) || len(out) > 2*len(list) {
			t.Fatalf("EncodePoints(%v) = %v", list, out)
		}
		for _, b := range out {
			if b < 0 || b > 255 {
				t.Fatalf("EncodePoints(%v) = %v", list, out)
			}
		}
	}
}

func TestEncodePoints(t *testing.T) {
	for _, c := range []struct{ list, want []int }{
		{nil, nil},
		{[]int{}, nil},
		{[]int{0}, []int{0}},
		{[]int{127}, []int{127}},
		{[]int{128}, []int{194, 128}},
		{[]int{191}, []int{194, 191}},
		{[]int{192}, []int{195, 128}},
		{[]int{255, 256}, []int{195, 191, 196, 128}},
		{[]int{1983, 1984}, []int{222, 191, 223, 128}},
		{[]int{2046, 2047}, []int{223, 190, 223, 191}},
		{[]int{3128}, []int{128}},
		{[]int{3255}, []int{255}},
		{[]int{0, 127, 128, 2047, 3128, 3255}, []int{0, 127, 194, 128, 223, 191, 128, 255}},
		// What is kept may have been half a point, and is then all of one with what is behind it.
		{[]int{3195, 3164}, []int{195, 164}},
		{[]int{3192, 3193, 3194, 128}, []int{192, 193, 194, 194, 128}},
		{times(60, 2047), times(60, 223, 191)},
		{times(60, 128), times(60, 194, 128)},
		{times(60, 127), times(60, 127)},
		{times(60, 3255), times(60, 255)},
		{times(30, 65, 228), times(30, 65, 195, 164)},
	} {
		if out := impl.EncodePoints(c.list); !slices.Equal(out, c.want) {
			t.Errorf("EncodePoints(%v) = %v, not %v", c.list, out, c.want)
		}
	}
}

// Promise 59: DecodeBytes of EncodePoints with DmStrict is the points, if none
// stands for a byte that was wrong, and the bytes are not too many.
func TestPromise59PointsComeBack(t *testing.T) {
	back := 0
	for _, list := range pointLists() {
		out := impl.EncodePoints(list)
		if len(out) > impl.MaxData || slices.ContainsFunc(list, func(n int) bool { return n > impl.MaxPoint }) {
			continue
		}
		if points, ok := impl.DecodeBytes(out, impl.DmStrict); !ok || !slices.Equal(points, list) {
			t.Fatalf("DecodeBytes(%v, DmStrict) = %v, %v, not %v", out, points, ok, list)
		}
		back++
	}
	// All short lists of the ten points that stand for themselves, and three of the long ones.
	if back != 1+10+100+1000+3 {
		t.Errorf("%d came back", back)
	}
}

// Promise 60: DecodeSome of the first bytes and then of the others gives what
// DecodeSome of all gives.
func TestPromise60BytesCanComeInParts(t *testing.T) {
	for _, list := range codedLists() {
		for _, lead := range waits {
			for _, mode := range ways {
				checkParts(t, list, lead, mode)
			}
		}
	}
}

// checkParts checks DecodeSome of each two parts of a list. Where the way stops
// in the first part, it stops there with all of the list.
func checkParts(t *testing.T, list []int, lead int, mode int) {
	t.Helper()
	for _, final := range []bool{false, true} {
		want, wantWait, wantOk := impl.DecodeSome(list, lead, final, mode)
		for i := range len(list) + 1 {
			points, wait, ok := impl.DecodeSome(list[:i], lead, false, mode)
			if ok {
				var others []int
				others, wait, ok = impl.DecodeSome(list[i:], wait, final, mode)
				points = joined(points, others)
			}
			if !slices.Equal(points, want) || wait != wantWait || ok != wantOk {
				t.Fatalf("DecodeSome(%v and %v, %d, %v, %d) = %v, %d, %v, not %v, %d, %v", list[:i], list[i:], lead, final, mode, points, wait, ok, want, wantWait, wantOk)
			}
		}
	}
}

// Promise 61: DecodeSome with a lead is DecodeSome of it and the bytes without one.
func TestPromise61BytesThatWaitAreAhead(t *testing.T) {
	for _, list := range codedLists() {
		if len(list) == impl.MaxData {
			continue
		}
		for lead := 194; lead <= 223; lead++ {
			for _, mode := range ways {
				for _, final := range []bool{false, true} {
					want, wait, ok := impl.DecodeSome(joined([]int{lead}, list), 0, final, mode)
					checkSome(t, list, lead, final, mode, want, wait, ok)
				}
			}
		}
	}
}

// Promise 62: EncodePoints of DecodeBytes with DmKeep is the bytes, for all bytes.
func TestPromise62KeptBytesComeBack(t *testing.T) {
	for _, list := range append(codedLists(), pairLists()...) {
		points := decodedBy(t, list, impl.DmKeep)
		if out := impl.EncodePoints(points); !impl.ValidPoints(points) || !slices.Equal(out, list) {
			t.Fatalf("EncodePoints(%v) = %v, not %v", points, out, list)
		}
	}
}

// Promise 63: where DmStrict is possible all ways give the same; where it is
// not it gives the points ahead of BadAt, and DmDrop has fewer points than DmMark.
func TestPromise63WaysToDecodeAgreeOnWhatIsRight(t *testing.T) {
	for _, list := range codedLists() {
		strict, ok := impl.DecodeBytes(list, impl.DmStrict)
		drop, mark, keep := decodedBy(t, list, impl.DmDrop), decodedBy(t, list, impl.DmMark), decodedBy(t, list, impl.DmKeep)
		if ok != (impl.BadAt(list) == -1) {
			t.Fatalf("DecodeBytes(%v, DmStrict) = %v, %v", list, strict, ok)
		}
		if ok {
			if !slices.Equal(drop, strict) || !slices.Equal(mark, strict) || !slices.Equal(keep, strict) {
				t.Fatalf("DecodeBytes(%v) = %v, %v, %v, %v", list, strict, drop, mark, keep)
			}
			continue
		}
		ahead := decodedBy(t, list[:impl.BadAt(list)], impl.DmStrict)
		if !slices.Equal(strict, ahead) || len(drop) >= len(mark) || len(mark) != len(keep) {
			t.Fatalf("DecodeBytes(%v) = %v, %v, %v, %v", list, strict, drop, mark, keep)
		}
	}
}

// Promise 64: what is ahead of BadAt is decoded with DmStrict, and with it it is not.
func TestPromise64TheFirstWrongByteIsWrong(t *testing.T) {
	for _, list := range append(codedLists(), pairLists()...) {
		bad := impl.BadAt(list)
		if bad == -1 {
			decodedBy(t, list, impl.DmStrict)
			continue
		}
		decodedBy(t, list[:bad], impl.DmStrict)
		if points, ok := impl.DecodeBytes(list[:bad+1], impl.DmStrict); ok {
			t.Fatalf("BadAt(%v) = %d, but up to it there are %v", list, bad, points)
		}
	}
}

// Promise 65: CountPoints is the number of PlacesOf.
func TestPromise65PointsBeginWhereTheyAreCounted(t *testing.T) {
	for _, list := range append(codedLists(), pairLists()...) {
		if n := impl.CountPoints(list); n != len(impl.PlacesOf(list)) {
			t.Fatalf("CountPoints(%v) = %d", list, n)
		}
	}
}

// Promise 66: SyncAt is the last one of PlacesOf that is not behind the index.
func TestPromise66PlacesAreFoundFromWithin(t *testing.T) {
	for _, list := range append(codedLists(), pairLists()...) {
		places := impl.PlacesOf(list)
		for i := range list {
			want := -1
			for _, place := range places {
				if place <= i {
					want = place
				}
			}
			if got := impl.SyncAt(list, i); got != want {
				t.Fatalf("SyncAt(%v, %d) = %d, not %d", list, i, got, want)
			}
		}
	}
}

// Promise 67: PlacesOf ascend from 0 on, and the bytes from each one up to the
// next one are one point with DmMark.
func TestPromise67PlacesCutTheBytesIntoPoints(t *testing.T) {
	for _, list := range append(codedLists(), pairLists()...) {
		var points []int
		places := append(impl.PlacesOf(list), len(list))
		if places[0] != 0 {
			t.Fatalf("PlacesOf(%v) = %v", list, places)
		}
		for i, from := range places[:len(places)-1] {
			upTo := places[i+1]
			if upTo <= from {
				t.Fatalf("PlacesOf(%v) = %v", list, places)
			}
			one := decodedBy(t, list[from:upTo], impl.DmMark)
			if len(one) != 1 {
				t.Fatalf("DecodeBytes(%v, DmMark) = %v", list[from:upTo], one)
			}
			points = append(points, one...)
		}
		if want := decodedBy(t, list, impl.DmMark); !slices.Equal(points, want) {
			t.Fatalf("PlacesOf(%v) = %v, with the points %v, not %v", list, places, points, want)
		}
	}
}

// Promise 68: CleanPoints of what DmKeep gives is what DmMark gives, and is its own.
func TestPromise68CleanPointsAreRight(t *testing.T) {
	for _, list := range append(codedLists(), pairLists()...) {
		clean := impl.CleanPoints(decodedBy(t, list, impl.DmKeep))
		if !slices.Equal(clean, decodedBy(t, list, impl.DmMark)) || !slices.Equal(clean, impl.CleanPoints(clean)) {
			t.Fatalf("CleanPoints of the points of %v = %v", list, clean)
		}
	}
}

func TestCleanPoints(t *testing.T) {
	for _, c := range []struct{ list, want []int }{
		{nil, nil},
		{[]int{}, nil},
		{[]int{0, 127, 128, 2046}, []int{0, 127, 128, 2046}},
		{[]int{2047}, []int{2047}},
		{[]int{3128}, []int{2047}},
		{[]int{3255, 3128, 3195}, []int{2047, 2047, 2047}},
		{[]int{3195, 65, 2047, 3128, 228, 3255}, []int{2047, 65, 2047, 2047, 228, 2047}},
		{times(60, 3255), times(60, 2047)},
		{times(60, 2047), times(60, 2047)},
		{times(20, 65, 3200, 2046), times(20, 65, 2047, 2046)},
	} {
		if out := impl.CleanPoints(c.list); !slices.Equal(out, c.want) {
			t.Errorf("CleanPoints(%v) = %v, not %v", c.list, out, c.want)
		}
	}
}

// codeCase is a call of DecodeSome: the bytes, the lead, whether they are the
// last ones, what waits, the points with DmKeep, and how many of these are ahead
// of the first wrong byte, -1 if there is none.
type codeCase struct {
	list  []int
	lead  int
	final bool
	wait  int
	keep  []int
	ahead int
}

// checkWays checks calls of DecodeSome in each way.
func checkWays(t *testing.T, cases []codeCase) {
	t.Helper()
	for _, c := range cases {
		var drop, mark []int
		for _, point := range c.keep {
			if point < 3000 {
				drop = append(drop, point)
				mark = append(mark, point)
			} else {
				mark = append(mark, 2047)
			}
		}
		checkSome(t, c.list, c.lead, c.final, impl.DmKeep, c.keep, c.wait, true)
		checkSome(t, c.list, c.lead, c.final, impl.DmMark, mark, c.wait, true)
		checkSome(t, c.list, c.lead, c.final, impl.DmDrop, drop, c.wait, true)
		if c.ahead < 0 {
			checkSome(t, c.list, c.lead, c.final, impl.DmStrict, c.keep, c.wait, true)
		} else {
			checkSome(t, c.list, c.lead, c.final, impl.DmStrict, c.keep[:c.ahead], 0, false)
		}
	}
}

// A byte that begins a point is wrong if it is not followed so.
func TestDecodeSomeFollowed(t *testing.T) {
	for _, final := range []bool{false, true} {
		checkWays(t, []codeCase{
			{nil, 0, final, 0, nil, -1},
			{[]int{}, 0, final, 0, nil, -1},
			{[]int{194, 128}, 0, final, 0, []int{128}, -1},
			{[]int{194, 191}, 0, final, 0, []int{191}, -1},
			{[]int{223, 128}, 0, final, 0, []int{1984}, -1},
			{[]int{223, 191}, 0, final, 0, []int{2047}, -1},
			{[]int{65, 195, 164, 66}, 0, final, 0, []int{65, 228, 66}, -1},
			{[]int{194, 127}, 0, final, 0, []int{3194, 127}, 0},
			{[]int{223, 0}, 0, final, 0, []int{3223, 0}, 0},
			{[]int{65, 223, 127, 66}, 0, final, 0, []int{65, 3223, 127, 66}, 1},
			{[]int{194, 192}, 0, final, 0, []int{3194, 3192}, 0},
			{[]int{194, 193, 128}, 0, final, 0, []int{3194, 3193, 3128}, 0},
			{[]int{223, 224}, 0, final, 0, []int{3223, 3224}, 0},
			{[]int{223, 255, 191}, 0, final, 0, []int{3223, 3255, 3191}, 0},
			{[]int{194, 194, 128}, 0, final, 0, []int{3194, 128}, 0},
			{[]int{194, 223, 191}, 0, final, 0, []int{3194, 2047}, 0},
			{[]int{223, 223, 194, 128, 65}, 0, final, 0, []int{3223, 3223, 128, 65}, 0},
			{[]int{194, 128, 128}, 0, final, 0, []int{128, 3128}, 1},
		})
	}
	// The last byte waits, if it begins a point, but not with final.
	checkWays(t, []codeCase{
		{[]int{194}, 0, false, 194, nil, -1},
		{[]int{194}, 0, true, 0, []int{3194}, 0},
		{[]int{65, 223}, 0, false, 223, []int{65}, -1},
		{[]int{65, 223}, 0, true, 0, []int{65, 3223}, 1},
		{[]int{194, 223}, 0, false, 223, []int{3194}, 0},
		{[]int{194, 223}, 0, true, 0, []int{3194, 3223}, 0},
		{[]int{194, 128, 195}, 0, false, 195, []int{128}, -1},
		{[]int{194, 128, 195}, 0, true, 0, []int{128, 3195}, 1},
		{[]int{255, 195}, 0, false, 195, []int{3255}, 0},
	})
}

// A lead is told with what is behind it.
func TestDecodeSomeLead(t *testing.T) {
	for _, final := range []bool{false, true} {
		checkWays(t, []codeCase{
			{[]int{128}, 194, final, 0, []int{128}, -1},
			{[]int{191}, 223, final, 0, []int{2047}, -1},
			{[]int{164, 65}, 195, final, 0, []int{228, 65}, -1},
			{[]int{128, 128}, 194, final, 0, []int{128, 3128}, 1},
			{[]int{127}, 194, final, 0, []int{3194, 127}, 0},
			{[]int{0}, 223, final, 0, []int{3223, 0}, 0},
			{[]int{192}, 194, final, 0, []int{3194, 3192}, 0},
			{[]int{224}, 223, final, 0, []int{3223, 3224}, 0},
			{[]int{194, 128}, 223, final, 0, []int{3223, 128}, 0},
			{times(60, 65), 194, final, 0, joined([]int{3194}, times(60, 65)), 0},
			{times(60, 128), 194, final, 0, joined([]int{128}, times(59, 3128)), 1},
			{times(30, 195, 164), 223, final, 0, joined([]int{3223}, times(30, 228)), 0},
			{joined([]int{164}, times(29, 195, 164), []int{65}), 195, final, 0, joined(times(30, 228), []int{65}), -1},
		})
	}
	checkWays(t, []codeCase{
		{nil, 194, false, 194, nil, -1},
		{[]int{}, 223, false, 223, nil, -1},
		{nil, 194, true, 0, []int{3194}, 0},
		{[]int{}, 223, true, 0, []int{3223}, 0},
		{[]int{196}, 195, false, 196, []int{3195}, 0},
		{[]int{196}, 195, true, 0, []int{3195, 3196}, 0},
		{[]int{164, 196}, 195, false, 196, []int{228}, -1},
		{[]int{164, 196}, 195, true, 0, []int{228, 3196}, 1},
		{times(60, 194), 194, false, 194, times(60, 3194), 0},
		{times(60, 194), 194, true, 0, times(61, 3194), 0},
		{times(30, 164, 195), 195, false, 195, times(30, 228), -1},
		{times(30, 164, 195), 195, true, 0, joined(times(30, 228), []int{3195}), 30},
	})
}

// wrongRun is a list of bytes, its points with DmKeep, the index of the first
// byte that is wrong, and the places.
type wrongRun struct {
	list, keep []int
	bad        int
	places     []int
}

// wrongRuns returns lists with several wrong bytes, one behind the other, and right ones.
func wrongRuns() []wrongRun {
	return []wrongRun{
		{nil, nil, -1, nil},
		{[]int{}, nil, -1, nil},
		{[]int{0}, []int{0}, -1, []int{0}},
		{[]int{127}, []int{127}, -1, []int{0}},
		{[]int{128}, []int{3128}, 0, []int{0}},
		{[]int{191}, []int{3191}, 0, []int{0}},
		// 0 would be 192 and 128, and 127 would be 193 and 191, but they have shorter forms.
		{[]int{192, 128}, []int{3192, 3128}, 0, []int{0, 1}},
		{[]int{192, 191}, []int{3192, 3191}, 0, []int{0, 1}},
		{[]int{193, 128}, []int{3193, 3128}, 0, []int{0, 1}},
		{[]int{193, 191}, []int{3193, 3191}, 0, []int{0, 1}},
		// Nor has any point more bytes.
		{[]int{224, 160, 128}, []int{3224, 3160, 3128}, 0, []int{0, 1, 2}},
		{[]int{239, 191, 189, 65}, []int{3239, 3191, 3189, 65}, 0, []int{0, 1, 2, 3}},
		{[]int{240, 159, 152, 128}, []int{3240, 3159, 3152, 3128}, 0, []int{0, 1, 2, 3}},
		{[]int{255, 254, 65, 195, 164}, []int{3255, 3254, 65, 228}, 0, []int{0, 1, 2, 3}},
		{[]int{195, 164, 128, 192, 224, 65}, []int{228, 3128, 3192, 3224, 65}, 2, []int{0, 2, 3, 4, 5}},
		{[]int{65, 195, 164, 255, 193, 194}, []int{65, 228, 3255, 3193, 3194}, 3, []int{0, 1, 3, 4, 5}},
		{[]int{65, 195, 164, 66, 195}, []int{65, 228, 66, 3195}, 4, []int{0, 1, 3, 4}},
		{[]int{195, 195, 195, 164}, []int{3195, 3195, 228}, 0, []int{0, 1, 2}},
		{[]int{195, 164, 195, 164}, []int{228, 228}, -1, []int{0, 2}},
		{[]int{97, 195, 98, 164, 195, 164, 200}, []int{97, 3195, 98, 3164, 228, 3200}, 1, []int{0, 1, 2, 3, 4, 6}},
	}
}

func TestDecodeBytes(t *testing.T) {
	for _, c := range wrongRuns() {
		ahead := slices.IndexFunc(c.keep, func(point int) bool { return point >= 3000 })
		checkWays(t, []codeCase{{c.list, 0, true, 0, c.keep, ahead}})
		for _, mode := range ways {
			want, _, wantOk := impl.DecodeSome(c.list, 0, true, mode)
			if points, ok := impl.DecodeBytes(c.list, mode); !slices.Equal(points, want) || ok != wantOk {
				t.Errorf("DecodeBytes(%v, %d) = %v, %v, not %v, %v", c.list, mode, points, ok, want, wantOk)
			}
		}
	}
}

func TestBadAtAndPlaces(t *testing.T) {
	for _, c := range wrongRuns() {
		if bad := impl.BadAt(c.list); bad != c.bad {
			t.Errorf("BadAt(%v) = %d, not %d", c.list, bad, c.bad)
		}
		if places := impl.PlacesOf(c.list); !slices.Equal(places, c.places) {
			t.Errorf("PlacesOf(%v) = %v, not %v", c.list, places, c.places)
		}
		if n := impl.CountPoints(c.list); n != len(c.places) {
			t.Errorf("CountPoints(%v) = %d, not %d", c.list, n, len(c.places))
		}
	}
}

func TestSyncAt(t *testing.T) {
	for _, c := range []struct{ list, want []int }{
		{[]int{65}, []int{0}},
		{[]int{194}, []int{0}},
		{[]int{128}, []int{0}},
		{[]int{194, 128}, []int{0, 0}},
		{[]int{223, 191, 65}, []int{0, 0, 2}},
		{[]int{65, 194, 128, 223, 191}, []int{0, 1, 1, 3, 3}},
		{[]int{194, 194, 128}, []int{0, 1, 1}},
		{[]int{194, 128, 128}, []int{0, 0, 2}},
		{[]int{194, 127}, []int{0, 1}},
		{[]int{194, 192}, []int{0, 1}},
		{[]int{193, 128}, []int{0, 1}},
		{[]int{224, 128}, []int{0, 1}},
		{[]int{97, 195, 98, 164, 195, 164, 200}, []int{0, 1, 2, 3, 4, 4, 6}},
		{times(2, 255, 195, 164), []int{0, 1, 1, 3, 4, 4}},
	} {
		for i, want := range c.want {
			if got := impl.SyncAt(c.list, i); got != want {
				t.Errorf("SyncAt(%v, %d) = %d, not %d", c.list, i, got, want)
			}
		}
	}
	long := times(30, 195, 164)
	if impl.SyncAt(long, 59) != 58 || impl.SyncAt(long, 58) != 58 || impl.SyncAt(long, 0) != 0 || impl.SyncAt(long, 1) != 0 {
		t.Errorf("SyncAt of 30 points of two bytes = %d, %d", impl.SyncAt(long, 59), impl.SyncAt(long, 58))
	}
}

// wrongPoints returns lists that are no points, each for one reason.
func wrongPoints() [][]int {
	out := [][]int{times(61, 65), times(61, 2047), times(61, 3255), zeros(61)}
	for _, n := range append([]int{-1, 2048, 2999, 3000, 3001, 3127, 3256, 4000, wrap, wrap + 65, wrap + 3128, -wrap + 65}, huge...) {
		out = append(out, []int{n}, []int{n, 65}, []int{65, 3128, n}, joined(times(59, 65), []int{n}))
	}
	return out
}

func TestValidPoints(t *testing.T) {
	for _, list := range append(pointLists(), nil, []int{}, []int{0, 127, 128, 2047, 3128, 3255}) {
		if !impl.ValidPoints(list) {
			t.Errorf("ValidPoints(%v) = false", list)
		}
	}
	for _, list := range wrongPoints() {
		if impl.ValidPoints(list) {
			t.Errorf("ValidPoints(%v) = true", list)
		}
	}
}

func TestCodesWrongPoints(t *testing.T) {
	for _, list := range wrongPoints() {
		if out := impl.EncodePoints(list); len(out) > 0 {
			t.Errorf("EncodePoints(%v) = %v", list, out)
		}
		if out := impl.CleanPoints(list); len(out) > 0 {
			t.Errorf("CleanPoints(%v) = %v", list, out)
		}
	}
}

// wrongCoded returns lists that are no bytes, with bytes of points.
func wrongCoded() [][]int {
	return append(wrongLists(), times(61, 65), times(61, 194), joined(times(30, 195, 164), []int{195}), []int{65, 256}, []int{195, 164, -1}, []int{256, 195, 164}, []int{-1, 195},
		[]int{195, wrap + 164}, []int{wrap + 65}, []int{65, 255, 3128})
}

func TestCodesWrongBytes(t *testing.T) {
	for _, list := range wrongCoded() {
		for _, mode := range ways {
			for _, lead := range waits {
				checkSome(t, list, lead, false, mode, nil, 0, false)
				checkSome(t, list, lead, true, mode, nil, 0, false)
			}
			if points, ok := impl.DecodeBytes(list, mode); len(points) > 0 || ok {
				t.Errorf("DecodeBytes(%v, %d) = %v, %v", list, mode, points, ok)
			}
		}
		if bad := impl.BadAt(list); bad != -2 {
			t.Errorf("BadAt(%v) = %d", list, bad)
		}
		if n := impl.CountPoints(list); n != -1 {
			t.Errorf("CountPoints(%v) = %d", list, n)
		}
		if places := impl.PlacesOf(list); len(places) > 0 {
			t.Errorf("PlacesOf(%v) = %v", list, places)
		}
		for i := range list {
			if at := impl.SyncAt(list, i); at != -1 {
				t.Errorf("SyncAt(%v, %d) = %d", list, i, at)
			}
		}
	}
}

// A lead is 0 or a byte that begins a point, whatever is behind it.
func TestDecodeSomeWrongLeads(t *testing.T) {
	leads := append([]int{-1, 1, 10, 13, 65, 127, 128, 191, 192, 193, 224, 225, 255, 256, 450, 3194, -194, wrap, wrap + 194}, huge...)
	for _, lead := range leads {
		for _, list := range append(manyBytes(), nil, []int{65}, []int{128}, []int{194}, []int{195, 164}) {
			for _, mode := range ways {
				checkSome(t, list, lead, false, mode, nil, 0, false)
				checkSome(t, list, lead, true, mode, nil, 0, false)
			}
		}
	}
}

func TestDecodeWrongWays(t *testing.T) {
	for _, mode := range append([]int{-1, -2, 4, 5, 256, wrap, wrap + 3}, huge...) {
		for _, list := range append(manyBytes(), nil, []int{65}, []int{195, 164}, []int{195}, []int{255}) {
			for _, lead := range waits {
				checkSome(t, list, lead, false, mode, nil, 0, false)
				checkSome(t, list, lead, true, mode, nil, 0, false)
			}
			if points, ok := impl.DecodeBytes(list, mode); len(points) > 0 || ok {
				t.Errorf("DecodeBytes(%v, %d) = %v, %v", list, mode, points, ok)
			}
		}
	}
}

func TestSyncAtWrongIndices(t *testing.T) {
	for _, list := range append(manyBytes(), nil, []int{}, []int{65}, []int{195, 164}) {
		for _, i := range append([]int{-1, -2, len(list), len(list) + 1, 60, wrap}, huge...) {
			if at := impl.SyncAt(list, i); at != -1 {
				t.Errorf("SyncAt(%v, %d) = %d", list, i, at)
			}
		}
	}
}

// codeCalls are the functions that return numbers, by what they are called with.
func codeCalls() map[string]func(list []int) []int {
	out := map[string]func(list []int) []int{
		"EncodePoints": impl.EncodePoints,
		"PlacesOf":     impl.PlacesOf,
		"CleanPoints":  impl.CleanPoints,
		"others": func(list []int) []int {
			impl.ValidPoints(list)
			return []int{impl.BadAt(list), impl.CountPoints(list), impl.SyncAt(list, len(list)-1)}
		},
	}
	for mode, name := range []string{"strict", "drop", "mark", "keep"} {
		out["DecodeBytes "+name] = func(list []int) []int {
			points, _ := impl.DecodeBytes(list, mode)
			return points
		}
		out["DecodeSome "+name] = func(list []int) []int {
			points, _, _ := impl.DecodeSome(list, 0, false, mode)
			return points
		}
		out["DecodeSome with a lead "+name] = func(list []int) []int {
			points, _, _ := impl.DecodeSome(list, 195, false, mode)
			return points
		}
	}
	return out
}

// No function changes its arguments, and no result shares memory with one.
func TestCodeResultsAreNew(t *testing.T) {
	lists := append(manyBytes(), shortLists(3, 65, 128, 195, 255)...)
	lists = append(lists, times(60, 2047), times(60, 3255), times(20, 65, 2047, 3128), []int{65}, []int{2047}, []int{3128, 65})
	for name, call := range codeCalls() {
		for _, list := range lists {
			given := roomy(list)
			got := call(given)
			if !intact(given, list) {
				t.Errorf("%s: an argument was changed", name)
			}
			checkApart(t, name, given, got)
			if again := call(roomy(list)); len(list) > 0 && len(got) > 0 && slices.Equal(again, got) {
				t.Errorf("%s: a result was kept", name)
			}
		}
	}
}
