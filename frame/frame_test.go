package frame_test

import (
	"bytes"
	"slices"
	"strings"
	"testing"

	"rollcall/api"
	"rollcall/frame"
)

// row is a line's text of n bytes.
func row(n int) string {
	return strings.Repeat("x", n)
}

// plain are the lines of some bytes, all at once, and how many wait.
func plain(s string) (lines []api.Line, rest int, lost bool) {
	parts := strings.FieldsFunc(strings.ReplaceAll(s, "\r", "\n")+".", func(r rune) bool { return r == '\n' })
	last := parts[len(parts)-1]
	for _, part := range parts[:len(parts)-1] {
		if len(part) > 510 {
			lines = append(lines, api.Line{Long: true})
		} else {
			lines = append(lines, api.Line{Text: part})
		}
	}
	if rest = len(last) - 1; rest > 510 {
		return lines, 0, true
	}
	return lines, rest, false
}

func TestFeed(t *testing.T) {
	for _, s := range []string{
		"", "a", "\n", "\r\n\r\n", "ab\nc", "ab\r\ncd\r\n", "\r\ra\n\nb\r", row(509) + "\n", row(510) + "\n", row(511) + "\n", row(510), row(511), row(512),
		row(511) + "\nab\n", row(2000) + "\r" + row(2000) + "\rx", "a\x00b\xff\n", row(510) + "\n" + row(511) + "\r\n" + row(510) + "\n", "\n" + row(511),
	} {
		want, rest, lost := plain(s)
		for _, by := range []int{1, 2, 3, 7, 509, 510, 511, 512, 5000} {
			f := frame.New()
			var got []api.Line
			for piece := range slices.Chunk([]byte(s), by) {
				got = append(got, f.Feed(piece)...)
			}
			if !slices.Equal(got, want) || f.Rest() != rest || f.Lost() != lost {
				t.Errorf("%.20q.. of %d bytes, by %d: %d lines, %d wait, %v; not %d, %d, %v", s, len(s), by, len(got), f.Rest(), f.Lost(), len(want), rest, lost)
			}
			if all := slices.Collect(frame.Lines(slices.Collect(slices.Chunk([]byte(s), by))...)); !slices.Equal(all, want) {
				t.Errorf("%.20q.. by %d: Lines tells %d, not %d", s, by, len(all), len(want))
			}
		}
	}
}

func TestExample(t *testing.T) {
	f := frame.New()
	if got := f.Feed([]byte("ab\nc")); !slices.Equal(got, []api.Line{{Text: "ab"}}) || f.Rest() != 1 || f.Lost() {
		t.Errorf("%v, %d", got, f.Rest())
	}
	if got := f.Feed(nil); len(got) != 0 || f.Rest() != 1 {
		t.Errorf("of nothing: %v, %d", got, f.Rest())
	}
}

func TestOtherBytesEndNothing(t *testing.T) {
	for b := range 256 {
		if b == '\r' || b == '\n' {
			continue
		}
		want := string([]byte{'a', byte(b), 'c'})
		if got := frame.New().Feed([]byte(want + "\n")); !slices.Equal(got, []api.Line{{Text: want}}) {
			t.Errorf("%q: %v", want, got)
		}
	}
}

func TestTooLong(t *testing.T) {
	f := frame.New()
	f.Feed([]byte(row(510)))
	if f.Rest() != 510 || f.Lost() {
		t.Error("510 bytes aren't too many")
	}
	f.Feed([]byte("x"))
	if f.Rest() != 0 || !f.Lost() {
		t.Error("511 bytes are too many")
	}
	if got := f.Feed([]byte("yy")); len(got) != 0 {
		t.Error("it is told at its end")
	}
	if got := f.Feed([]byte("\r\nz")); !slices.Equal(got, []api.Line{{Long: true}}) || f.Lost() || f.Rest() != 1 {
		t.Errorf("it is told once: %v", got)
	}
}

func TestFeedKeepsNothingOfOthers(t *testing.T) {
	f := frame.New()
	b := []byte("ab\ncd")
	room := append(bytes.Clone(b), "!!!!"...)
	lines := f.Feed(room[:len(b):len(room)])
	if string(room) != "ab\ncd!!!!" {
		t.Error("what is handed in was written to")
	}
	for i := range room {
		room[i] = '?'
	}
	lines = append(lines, f.Feed([]byte("e\n"))...)
	if !slices.Equal(lines, []api.Line{{Text: "ab"}, {Text: "cde"}}) {
		t.Errorf("%v", lines)
	}
	piece := []byte("ab\n")
	seq := frame.Lines(piece)
	piece[0] = '?'
	for range 2 {
		if got := slices.Collect(seq); !slices.Equal(got, []api.Line{{Text: "ab"}}) {
			t.Errorf("Lines: %v", got)
		}
	}
}

func TestLinesOfNothing(t *testing.T) {
	for _, seq := range []func(func(api.Line) bool){frame.Lines(), frame.Lines(nil), frame.Lines(nil, []byte("ab")), frame.Lines([]byte("\r\n"))} {
		if seq == nil {
			t.Fatal("it is nil")
		}
		for l := range seq {
			t.Errorf("%v", l)
		}
	}
	n := 0
	for range frame.Lines([]byte("a\nb\nc\n")) {
		n++
		break
	}
	if n != 1 {
		t.Error("a loop may stop")
	}
}

func TestNilFramer(t *testing.T) {
	var f *frame.Framer
	if got := f.Feed([]byte("a\n")); len(got) != 0 || f.Rest() != 0 || f.Lost() {
		t.Error("a nil framer has something")
	}
}
