package sendq_test

import (
	"slices"
	"strings"
	"testing"

	"rollcall/api"
	"rollcall/sendq"
)

// made is a queue of at most so many bytes, or the test ends.
func made(t *testing.T, most int) *sendq.Queue {
	t.Helper()
	q, e := sendq.New(most)
	if q == nil || e != api.OK {
		t.Fatalf("New(%d): %d", most, e)
	}
	return q
}

// lines are the lines that wait whole.
func lines(q *sendq.Queue) []string {
	return slices.Collect(q.Lines())
}

func TestNew(t *testing.T) {
	for _, most := range []int{511, 0, -1, -1 << 63, 65537, 1<<63 - 1} {
		if q, e := sendq.New(most); q != nil || e != api.ErrRange {
			t.Errorf("New(%d): %v, %d", most, q, e)
		}
	}
	for _, most := range []int{512, 65536} {
		if q := made(t, most); q.Len() != 0 || q.Over() || q.Sent() != 0 || len(lines(q)) != 0 {
			t.Error("it isn't empty")
		}
	}
}

func TestExample(t *testing.T) {
	q := made(t, 512)
	if !q.Push("a") || !q.Push("bc") || q.Len() != 7 || !slices.Equal(lines(q), []string{"a", "bc"}) {
		t.Errorf("%d wait", q.Len())
	}
	if got := string(q.Drain(4)); got != "a\r\nb" || q.Len() != 3 || q.Sent() != 4 || len(lines(q)) != 0 {
		t.Errorf("%q, then %d, %d, %q", got, q.Len(), q.Sent(), lines(q))
	}
	q.Push("")
	if got := lines(q); !slices.Equal(got, []string{""}) {
		t.Errorf("%q", got)
	}
}

func TestWrongLines(t *testing.T) {
	q := made(t, 65536)
	for _, line := range []string{"a\x00", "\r", "a\nb", strings.Repeat("x", 511), strings.Repeat("x", 70000)} {
		if q.Push(line) || q.Len() != 0 || q.Over() {
			t.Errorf("%.9q: %d, %v", line, q.Len(), q.Over())
		}
	}
	if !q.Push(strings.Repeat("\xff", 510)) || q.Len() != 512 {
		t.Error("510 bytes are a line")
	}
}

func TestOver(t *testing.T) {
	q := made(t, 512)
	q.Push(strings.Repeat("x", 502))
	if q.Push("1234567") || !q.Over() || q.Len() != 504 {
		t.Errorf("a line without room: %v, %d", q.Over(), q.Len())
	}
	if q.Push("") {
		t.Error("nothing comes any more")
	}
	if got := q.Drain(1000); len(got) != 504 || q.Len() != 0 || !q.Over() || q.Push("") {
		t.Error("what waits can be drained still, and it stays over")
	}
	exact := made(t, 512)
	if !exact.Push(strings.Repeat("x", 502)) || !exact.Push("123456") || exact.Len() != 512 || exact.Over() {
		t.Error("a line that just has room comes")
	}
	if exact.Push("\n") || exact.Over() {
		t.Error("what is no line makes nothing over")
	}
	if exact.Push("") || !exact.Over() {
		t.Error("its end has no room")
	}
}

func TestDrain(t *testing.T) {
	q := made(t, 512)
	q.Push("ab")
	for _, n := range []int{0, -1, -1 << 63} {
		if got := q.Drain(n); len(got) != 0 || q.Len() != 4 {
			t.Errorf("Drain(%d): %q", n, got)
		}
	}
	first := q.Drain(1)
	rest := q.Drain(1<<63 - 1)
	first[0] = '?'
	if got := string(rest); got != "b\r\n" || len(q.Drain(1)) != 0 || q.Sent() != 4 {
		t.Errorf("%q, %d", got, q.Sent())
	}
}

func TestDrainedMemoryIsNew(t *testing.T) {
	q := made(t, 512)
	q.Push("ab")
	q.Push("cd")
	b := q.Drain(4)
	for i := range b[:cap(b)] {
		b[:cap(b)][i] = '?'
	}
	if got := lines(q); !slices.Equal(got, []string{"cd"}) {
		t.Errorf("%q wait", got)
	}
}

func TestLinesBehindEachDrain(t *testing.T) {
	texts := []string{"a", "", "bcd", "ef", ""}
	all := strings.Join(texts, "\r\n") + "\r\n"
	for n := range len(all) + 1 {
		q := made(t, 512)
		for _, s := range texts {
			q.Push(s)
		}
		var want []string
		at := 0
		for _, s := range texts {
			if at >= n {
				want = append(want, s)
			}
			at += len(s) + 2
		}
		got := string(q.Drain(n))
		if l := lines(q); got != all[:n] || !slices.Equal(l, want) {
			t.Errorf("behind %d bytes: %q, not %q", n, l, want)
		}
		if got += string(q.Drain(len(all))); got != all || q.Sent() != len(all) {
			t.Errorf("%q isn't what came", got)
		}
	}
}

func TestLinesAsTheyWere(t *testing.T) {
	q := made(t, 512)
	q.Push("a")
	q.Push("b")
	seq := q.Lines()
	q.Drain(3)
	q.Push("c")
	for range 2 {
		if got := slices.Collect(seq); !slices.Equal(got, []string{"a", "b"}) {
			t.Errorf("%q", got)
		}
	}
	for l := range q.Lines() {
		if l != "b" {
			t.Errorf("%q isn't the first", l)
		}
		break
	}
}

func TestNilQueue(t *testing.T) {
	var q *sendq.Queue
	if q.Push("a") || len(q.Drain(5)) != 0 || q.Len() != 0 || q.Over() || q.Sent() != 0 {
		t.Error("a nil queue has something")
	}
	if q.Lines() == nil {
		t.Fatal("Lines is nil")
	}
	if len(lines(q)) != 0 {
		t.Error("lines of nothing")
	}
}
