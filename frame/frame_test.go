package frame

import (
	"bytes"
	"math/rand"
	"slices"
	"strconv"
	"testing"

	"podesta/api"
)

// pattern is n bytes, of which neighbours differ, and those 256 further on, too.
func pattern(n int) []byte {
	b := make([]byte, n)
	for i := range b {
		b[i] = byte(i*7 + i>>8*3 + n + 1)
	}
	return b
}

// lengths are the lengths of contents at which the bytes of a length change, with their neighbours.
var lengths = []int{0, 1, 2, 3, 4, 5, 254, 255, 256, 257, 258, 511, 512, 1000, 65534, 65535, api.MaxFrame}

// framed returns the frames with these contents, one behind the other, written without Wrap.
func framed(contents ...[]byte) []byte {
	var out []byte
	for _, b := range contents {
		out = append(out, byte(len(b)/(1<<24)), byte(len(b)/65536%256), byte(len(b)/256%256), byte(len(b)%256))
		out = append(out, b...)
	}
	return out
}

// fed is a new Reader to which these parts were fed.
func fed(parts ...[]byte) *Reader {
	r := New()
	for _, b := range parts {
		r.Feed(b)
	}
	return r
}

// gives complains unless Next returns these contents.
func gives(t *testing.T, what string, r *Reader, want []byte) {
	t.Helper()
	left := r.Left()
	if b, e := r.Next(); e != api.OK || !bytes.Equal(b, want) {
		t.Errorf("%s: Next: %d bytes and error %d, not the %d bytes of the contents", what, len(b), e, len(want))
	}
	waits(t, what+", after Next", r, left-4-len(want))
}

// refuses complains unless Next returns this error, and nothing else, each time that it is called, and changes nothing.
func refuses(t *testing.T, what string, r *Reader, want api.Errno) {
	t.Helper()
	left := r.Left()
	for range 3 {
		if b, e := r.Next(); e != want || len(b) != 0 {
			t.Errorf("%s: Next: %d bytes and error %d, not error %d", what, len(b), e, want)
		}
		waits(t, what+", after an error", r, left)
	}
}

// waits complains unless Left returns n.
func waits(t *testing.T, what string, r *Reader, n int) {
	t.Helper()
	if got := r.Left(); got != n {
		t.Errorf("%s: Left: %d, not %d", what, got, n)
	}
}

// P10.1: the bytes of wrapped frames, written out.
func TestWrap(t *testing.T) {
	for _, x := range []struct{ contents, frame string }{
		{"", "\x00\x00\x00\x00"},
		{"a", "\x00\x00\x00\x01a"},
		{"\x00", "\x00\x00\x00\x01\x00"},
		{"\x00\x00\x00\x01a", "\x00\x00\x00\x05\x00\x00\x00\x01a"},
		{"\xff\x80\x00\x7f", "\x00\x00\x00\x04\xff\x80\x00\x7f"},
		{"hello", "\x00\x00\x00\x05hello"},
	} {
		if b, e := Wrap([]byte(x.contents)); e != api.OK || string(b) != x.frame {
			t.Errorf("%q: %q and error %d, not %q", x.contents, b, e, x.frame)
		}
	}
	if b, e := Wrap(nil); e != api.OK || string(b) != "\x00\x00\x00\x00" {
		t.Errorf("nil: %q and error %d", b, e)
	}
}

// P10.1: the four bytes of the length, most significant first, up to MaxFrame.
func TestWrapLength(t *testing.T) {
	for n, want := range map[int]string{
		0: "\x00\x00\x00\x00", 1: "\x00\x00\x00\x01", 255: "\x00\x00\x00\xff", 256: "\x00\x00\x01\x00", 257: "\x00\x00\x01\x01",
		0x1234: "\x00\x00\x12\x34", 65535: "\x00\x00\xff\xff", 65536: "\x00\x01\x00\x00",
	} {
		b, e := Wrap(pattern(n))
		if e != api.OK || len(b) != 4+n || string(b[:4]) != want || !bytes.Equal(b[4:], pattern(n)) {
			t.Errorf("%d bytes: %d bytes and error %d", n, len(b), e)
		}
	}
}

// P10.1: more than MaxFrame bytes, whatever they are.
func TestWrapRange(t *testing.T) {
	for _, n := range []int{api.MaxFrame + 1, api.MaxFrame + 2, api.MaxFrame + 255, 2 * api.MaxFrame, 1 << 24, 1<<24 + 5} {
		for _, b := range [][]byte{make([]byte, n), pattern(n)} {
			if got, e := Wrap(b); e != api.ErrRange || len(got) != 0 {
				t.Errorf("%d bytes: %d bytes and error %d", n, len(got), e)
			}
		}
	}
}

// R4: Wrap changes nothing of b, nor of its spare capacity, and its result is memory of its own.
func TestWrapMemory(t *testing.T) {
	for _, n := range []int{0, 1, 5, 300} {
		whole := pattern(n + 50)
		b := whole[10 : 10+n]
		first, _ := Wrap(b)
		second, _ := Wrap(b)
		if !bytes.Equal(whole, pattern(n+50)) {
			t.Errorf("%d bytes: changed by Wrap", n)
		}
		clear(first[:cap(first)])
		if !bytes.Equal(whole, pattern(n+50)) || !bytes.Equal(second, framed(b)) {
			t.Errorf("%d bytes: the result shares memory", n)
		}
		want := framed(b)
		clear(whole)
		if !bytes.Equal(second, want) {
			t.Errorf("%d bytes: the result shares the memory of b", n)
		}
	}
}

// P10.2: a Reader before anything was fed, and after parts of no bytes.
func TestNothing(t *testing.T) {
	r := New()
	waits(t, "new", r, 0)
	refuses(t, "new", r, api.ErrEnd)
	for _, b := range [][]byte{nil, {}, pattern(9)[:0]} {
		r.Feed(b)
		waits(t, "nothing fed", r, 0)
		refuses(t, "nothing fed", r, api.ErrEnd)
	}
	r.Feed(framed([]byte("late")))
	gives(t, "after nothing", r, []byte("late"))
	refuses(t, "after the last frame", r, api.ErrEnd)
}

// P10.2: frames of all lengths are read again, whoever wrote them.
func TestNext(t *testing.T) {
	for _, n := range lengths {
		what := strconv.Itoa(n) + " bytes"
		wrapped, e := Wrap(pattern(n))
		if e != api.OK {
			t.Errorf("%s: error %d", what, e)
		}
		for _, whole := range [][]byte{framed(pattern(n)), wrapped} {
			r := fed(whole)
			waits(t, what, r, 4+n)
			gives(t, what, r, pattern(n))
			refuses(t, what+", after the last frame", r, api.ErrEnd)
		}
	}
}

// P10.2: the frame of the example.
func TestExample(t *testing.T) {
	r := fed([]byte{0, 0, 0, 1, 0x61})
	gives(t, "the example", r, []byte("a"))
	waits(t, "the example", r, 0)
}

// P10.2: a frame in two parts, which meet at each place of it.
func TestTwoParts(t *testing.T) {
	for _, n := range lengths {
		whole := framed(pattern(n))
		for cut := range whole {
			if cut > 300 && cut < len(whole)-300 && cut%9973 != 0 {
				continue
			}
			what := strconv.Itoa(n) + " bytes cut at " + strconv.Itoa(cut)
			r := fed(whole[:cut])
			waits(t, what, r, cut)
			refuses(t, what, r, api.ErrEnd)
			r.Feed(whole[cut:])
			waits(t, what+", complete", r, len(whole))
			gives(t, what, r, pattern(n))
			refuses(t, what+", removed", r, api.ErrEnd)
		}
	}
}

// P10.2: frames of which one byte is fed at a time, with parts of no bytes between them.
func TestByteByByte(t *testing.T) {
	r := New()
	for _, n := range []int{5, 0, 1, 300, 0, 0, 256, 2} {
		what := strconv.Itoa(n) + " bytes, one by one"
		for i, v := range framed(pattern(n)) {
			refuses(t, what, r, api.ErrEnd)
			r.Feed(nil)
			r.Feed([]byte{v})
			r.Feed([]byte{})
			waits(t, what, r, i+1)
		}
		gives(t, what, r, pattern(n))
	}
	refuses(t, "after the last frame", r, api.ErrEnd)
}

// P10.2: the largest frame, of which one byte is fed at a time.
func TestLargestByteByByte(t *testing.T) {
	r := New()
	want := pattern(api.MaxFrame)
	for _, v := range framed(want) {
		if _, e := r.Next(); e != api.ErrEnd {
			t.Fatalf("error %d with %d bytes", e, r.Left())
		}
		r.Feed([]byte{v})
	}
	gives(t, "the largest frame", r, want)
}

// several is the contents of several frames, some of which look like frames.
func several() [][]byte {
	return [][]byte{[]byte("one"), {}, {0, 0, 0, 1, 0x61}, {255, 255, 255, 255}, pattern(300), {}, {}, {0}, pattern(4)}
}

// P10.2: several frames that are fed together are read in order, also those behind empty ones.
func TestTogether(t *testing.T) {
	r := fed(framed(several()...))
	for i, want := range several() {
		gives(t, "frame "+strconv.Itoa(i), r, want)
	}
	waits(t, "all frames", r, 0)
	refuses(t, "all frames", r, api.ErrEnd)
}

// P10.2: several frames that are fed one by one, before and after the earlier ones are read.
func TestOneByOne(t *testing.T) {
	early, late := New(), New()
	for i, want := range several() {
		early.Feed(framed(want))
		gives(t, "frame "+strconv.Itoa(i)+" at once", early, want)
		refuses(t, "after frame "+strconv.Itoa(i), early, api.ErrEnd)
		late.Feed(framed(want))
	}
	waits(t, "all frames", late, len(framed(several()...)))
	for i, want := range several() {
		gives(t, "frame "+strconv.Itoa(i)+" later", late, want)
	}
	refuses(t, "all frames", late, api.ErrEnd)
}

// P10.2: several frames, cut at each place of all, and read before the second part.
func TestSeveralInTwoParts(t *testing.T) {
	whole := framed(several()...)
	for cut := range len(whole) + 1 {
		what := "cut at " + strconv.Itoa(cut)
		r := fed(whole[:cut])
		contents, ends := several(), 0
		for len(contents) > 0 && ends+4+len(contents[0]) <= cut {
			gives(t, what, r, contents[0])
			ends += 4 + len(contents[0])
			contents = contents[1:]
		}
		waits(t, what, r, cut-ends)
		refuses(t, what, r, api.ErrEnd)
		r.Feed(whole[cut:])
		for _, want := range contents {
			gives(t, what+", complete", r, want)
		}
		refuses(t, what+", removed", r, api.ErrEnd)
	}
}

// P10.2: a complete frame with the beginning of the next one behind it.
func TestNextBegins(t *testing.T) {
	first, second := []byte("first"), pattern(10)
	for cut := range 14 {
		what := strconv.Itoa(cut) + " bytes of the next frame"
		r := fed(append(framed(first), framed(second)[:cut]...))
		waits(t, what, r, 9+cut)
		gives(t, what, r, first)
		waits(t, what, r, cut)
		refuses(t, what, r, api.ErrEnd)
		r.Feed(framed(second)[cut:])
		gives(t, what, r, second)
	}
}

// tooLong is lengths above MaxFrame: each byte of them matters, and none is a sign.
func tooLong() [][]byte {
	return [][]byte{
		{0, 1, 0, 1}, {0, 1, 0, 255}, {0, 1, 1, 0}, {0, 2, 0, 0}, {0, 255, 0, 0}, {1, 0, 0, 0}, {1, 0, 0, 5}, {127, 255, 255, 255},
		{128, 0, 0, 0}, {128, 0, 0, 1}, {255, 0, 0, 0}, {255, 255, 0, 0}, {255, 255, 255, 255},
	}
}

// P10.2: a length above MaxFrame, with no bytes, fewer, as many, or more of them behind it.
func TestRange(t *testing.T) {
	for _, length := range tooLong() {
		for _, n := range []int{0, 1, 4, 65535, api.MaxFrame, api.MaxFrame + 1, api.MaxFrame + 2, api.MaxFrame + 256, 1<<17 + 9} {
			what := "length " + strconv.Quote(string(length)) + " with " + strconv.Itoa(n) + " bytes"
			together, apart := fed(append(slices.Clone(length), pattern(n)...)), fed(length, pattern(n))
			waits(t, what, together, 4+n)
			waits(t, what, apart, 4+n)
			refuses(t, what, together, api.ErrRange)
			refuses(t, what, apart, api.ErrRange)
		}
	}
	r := fed([]byte{1, 0, 0, 0}, pattern(1<<24))
	refuses(t, "a complete one of 2^24", r, api.ErrRange)
	waits(t, "a complete one of 2^24", r, 4+1<<24)
}

// P10.2: MaxFrame itself is no error, with fewer bytes behind it or as many.
func TestMaxFrame(t *testing.T) {
	want := pattern(api.MaxFrame)
	for _, n := range []int{0, 1, 65535, 65536} {
		what := "the largest length with " + strconv.Itoa(n) + " bytes"
		r := fed([]byte{0, 1, 0, 0}, want[:n])
		waits(t, what, r, 4+n)
		if n < len(want) {
			refuses(t, what, r, api.ErrEnd)
			r.Feed(want[n:])
		}
		gives(t, what, r, want)
		refuses(t, what, r, api.ErrEnd)
	}
	r := fed(framed(want, want, []byte("x")))
	gives(t, "the first one", r, want)
	gives(t, "the second one", r, want)
	gives(t, "the one behind them", r, []byte("x"))
}

// P10.2: a length that is not complete is not yet above MaxFrame.
func TestLengthInParts(t *testing.T) {
	for _, length := range tooLong() {
		for cut := range 4 {
			what := "length " + strconv.Quote(string(length)) + " cut at " + strconv.Itoa(cut)
			r := fed(length[:cut])
			refuses(t, what, r, api.ErrEnd)
			r.Feed(length[cut:])
			refuses(t, what+", complete", r, api.ErrRange)
			waits(t, what, r, 4)
		}
	}
}

// P10.2: after ErrRange Next returns it always, and Left counts what is fed.
func TestRangeStays(t *testing.T) {
	r := fed([]byte{0, 1, 0, 1})
	refuses(t, "too long", r, api.ErrRange)
	left := 4
	for _, b := range [][]byte{nil, {}, {0}, framed([]byte("good")), framed(nil), pattern(api.MaxFrame + 1), framed([]byte("good")), {1, 0, 0, 0}} {
		r.Feed(b)
		left += len(b)
		waits(t, "after "+strconv.Itoa(left)+" bytes", r, left)
		refuses(t, "after "+strconv.Itoa(left)+" bytes", r, api.ErrRange)
	}
}

// P10.2: frames before a length above MaxFrame are read; what is behind it is not, though it was there before the error.
func TestRangeBehindFrames(t *testing.T) {
	for _, length := range tooLong() {
		r := fed(framed(several()...), length, framed([]byte("good")))
		for _, want := range several() {
			gives(t, "before it", r, want)
		}
		waits(t, "too long", r, 12)
		refuses(t, "too long", r, api.ErrRange)
		r.Feed([]byte("more"))
		waits(t, "more", r, 16)
		refuses(t, "more", r, api.ErrRange)
	}
}

// P10.2: a nil *Reader.
func TestNil(t *testing.T) {
	var r *Reader
	for _, b := range [][]byte{nil, {}, framed([]byte("a")), {255, 255, 255, 255}} {
		waits(t, "nil", r, 0)
		r.Feed(b)
		waits(t, "nil", r, 0)
		refuses(t, "nil", r, api.ErrEnd)
	}
}

// R5: Readers know nothing of each other.
func TestApart(t *testing.T) {
	a, b := New(), New()
	if a == b {
		t.Fatal("the same Reader twice")
	}
	a.Feed(framed([]byte("of a"))[:6])
	b.Feed([]byte{255, 255, 255, 255})
	refuses(t, "b", b, api.ErrRange)
	refuses(t, "a", a, api.ErrEnd)
	waits(t, "new", New(), 0)
	refuses(t, "new", New(), api.ErrEnd)
	a.Feed(framed([]byte("of a"))[6:])
	gives(t, "a", a, []byte("of a"))
}

// R4: Feed changes nothing of a part, nor of its spare capacity, and keeps none of its memory.
func TestFeedMemory(t *testing.T) {
	contents := [][]byte{[]byte("one"), pattern(300), {}, []byte("last")}
	whole := framed(contents...)
	for cut := range len(whole) + 1 {
		array := append(slices.Clone(whole), pattern(100)...)
		before := slices.Clone(array)
		r := New()
		r.Feed(array[:cut])
		// What is fed next must not run into the spare capacity of the first part.
		r.Feed(whole[cut:])
		r.Feed(framed([]byte("more")))
		if !bytes.Equal(array, before) {
			t.Errorf("cut at %d: the part is changed by Feed", cut)
		}
		clear(array)
		for _, want := range append(contents, []byte("more")) {
			gives(t, "the part is cleared, cut at "+strconv.Itoa(cut), r, want)
		}
		if !bytes.Equal(array, make([]byte, len(before))) {
			t.Errorf("cut at %d: the part is changed by Next", cut)
		}
	}
}

// R4: the results of Next share no memory with one another, nor with what waits.
func TestNextMemory(t *testing.T) {
	contents, last := several(), pattern(2000)
	r := fed(framed(contents...), framed(last)[:1500])
	var results [][]byte
	for range contents {
		b, e := r.Next()
		if e != api.OK {
			t.Fatalf("error %d", e)
		}
		results = append(results, b)
		for i, b := range results {
			if !bytes.Equal(b, contents[i]) {
				t.Errorf("result %d has changed", i)
			}
		}
	}
	kept := slices.Clone(r.stream)
	for i, b := range results {
		full := b[:cap(b)]
		for at := range full {
			full[at] ^= 0xa5
		}
		if !bytes.Equal(r.stream, kept) {
			t.Errorf("result %d shares memory with the Reader", i)
		}
		for other := i + 1; other < len(results); other++ {
			if !bytes.Equal(results[other], contents[other]) {
				t.Errorf("results %d and %d share memory", i, other)
			}
		}
	}
	r.Feed(framed(last)[1500:])
	gives(t, "after the results were changed", r, last)
}

// R4: a result that is changed at once, with its spare capacity, changes no later result.
func TestChangedResults(t *testing.T) {
	r := fed(framed(several()...))
	for i, want := range several() {
		b, e := r.Next()
		if e != api.OK || !bytes.Equal(b, want) {
			t.Errorf("frame %d: %d bytes and error %d", i, len(b), e)
		}
		full := b[:cap(b)]
		for at := range full {
			full[at] = 0xff
		}
		_ = append(b, 0xff, 0xff, 0xff, 0xff, 0xff)
	}
	refuses(t, "all frames", r, api.ErrEnd)
}

// R4: results and frames may be fed again, also to the same Reader.
func TestFedAgain(t *testing.T) {
	r := fed(framed(framed(framed([]byte("inside")))))
	for range 2 {
		b, e := r.Next()
		if e != api.OK {
			t.Fatalf("error %d", e)
		}
		r.Feed(b)
		clear(b)
	}
	gives(t, "fed again", r, []byte("inside"))
}

// plainReader is what the chapter says of a Reader, as directly as can be.
type plainReader struct {
	waiting []byte
	broken  bool
}

func (p *plainReader) next() ([]byte, api.Errno) {
	w := p.waiting
	if p.broken || len(w) >= 4 && (w[0] > 0 || w[1] > 1 || w[1] == 1 && (w[2] > 0 || w[3] > 0)) {
		p.broken = true
		return nil, api.ErrRange
	}
	if len(w) < 4 {
		return nil, api.ErrEnd
	}
	n := 65536*int(w[1]) + 256*int(w[2]) + int(w[3])
	if len(w) < 4+n {
		return nil, api.ErrEnd
	}
	p.waiting = slices.Clone(w[4+n:])
	return w[4 : 4+n], api.OK
}

// stream is the bytes of many frames, of which few are large; the last one may be too long, or end early.
func stream(random *rand.Rand) []byte {
	var out []byte
	for range random.Intn(40) {
		n := random.Intn(12)
		if random.Intn(15) == 0 {
			n = lengths[random.Intn(len(lengths))]
		}
		out = append(out, framed(pattern(n))...)
	}
	switch random.Intn(3) {
	case 0:
		out = append(out, tooLong()[random.Intn(len(tooLong()))]...)
		out = append(out, framed(pattern(9), pattern(2))...)
	case 1:
		out = out[:len(out)-random.Intn(len(out)+1)]
	}
	return out
}

// P10.2: many streams in parts of all sizes, with Next in between or not; twice the same calls have the same results (R5).
func TestStreams(t *testing.T) {
	random := rand.New(rand.NewSource(10))
	for round := range 400 {
		left := stream(random)
		largest := 1 + random.Intn(1+len(left))
		if round%3 == 0 {
			largest = 9
			left = left[:min(len(left), 3000)]
		}
		first, second, plain := New(), New(), &plainReader{}
		for len(left) > 0 {
			part := left[:min(random.Intn(largest+1), len(left))]
			left = left[len(part):]
			first.Feed(part)
			second.Feed(part)
			plain.waiting = append(plain.waiting, part...)
			for range random.Intn(4) {
				want, e := plain.next()
				for _, r := range []*Reader{first, second} {
					if b, got := r.Next(); got != e || !bytes.Equal(b, want) {
						t.Fatalf("round %d: %d bytes and error %d, not %d and %d", round, len(b), got, len(want), e)
					}
					waits(t, "round "+strconv.Itoa(round), r, len(plain.waiting))
				}
			}
		}
	}
}

// What is kept stays near what waits, however much was removed, and after ErrRange it is no bytes at all.
func TestKept(t *testing.T) {
	r := New()
	for i := range 3000 {
		r.Feed(framed(pattern(1000)))
		gives(t, "frame "+strconv.Itoa(i), r, pattern(1000))
		if n := cap(r.stream); n > 4096 {
			t.Fatalf("%d bytes are kept of an empty stream", n)
		}
	}
	r.Feed(append(bytes.Repeat(framed(pattern(1000)), 1000), 0, 0, 0))
	for range 1000 {
		gives(t, "of many", r, pattern(1000))
		if n := len(r.stream); n > 2*r.Left() {
			t.Fatalf("%d bytes are kept of a stream of %d", n, r.Left())
		}
	}
	if n := cap(r.stream); n > 100 {
		t.Errorf("%d bytes are kept of a stream of 3", n)
	}
	r = fed([]byte{1, 0, 0, 0}, pattern(5000))
	refuses(t, "too long", r, api.ErrRange)
	r.Feed(pattern(5000))
	if n := cap(r.stream); n > 0 {
		t.Errorf("%d bytes are kept after ErrRange", n)
	}
	waits(t, "too long", r, 10004)
}
