package wire_test

import (
	"testing"

	"letterlock/api"
	"letterlock/wire"
)

// B1, B4: texts are put as the words say, and taken with what stands behind them.
func TestPutAndTakeOfTexts(t *testing.T) {
	for _, text := range someTexts() {
		s := wire.PutText(text)
		if s != oughtPutText(text) {
			t.Errorf("PutText of %d bytes begins with %q", len(text), s[:min(9, len(s))])
		}
		for _, behind := range []string{"", "\x00", "xyz", s} {
			for _, most := range []int{len(text), len(text) + 1, greatest} {
				if got, rest, e := wire.TakeText(s+behind, most); got != text || rest != behind || e != api.OK {
					t.Errorf("%d bytes, %d behind, at most %d: %d, %d, %v", len(text), len(behind), most, len(got), len(rest), e)
				}
			}
		}
	}
}

// B2: a text that is longer than may be, by one and by more, and a bound below 0.
func TestTakeTextOfTooLong(t *testing.T) {
	for _, text := range someTexts() {
		if text == "" {
			continue
		}
		for _, most := range []int{least, -1, 0, len(text) / 2, len(text) - 1} {
			if got, rest, e := wire.TakeText(wire.PutText(text)+"x", most); got != "" || rest != "" || e != api.ErrBig {
				t.Errorf("%d bytes, at most %d: %q, %q, %v", len(text), most, got, rest, e)
			}
		}
	}
	for _, most := range bounds {
		if got, rest, e := wire.TakeText("\x00x", most); got != "" || rest != "x" || e != api.OK {
			t.Errorf("no bytes, at most %d: %q, %q, %v", most, got, rest, e)
		}
	}
}

// B2: fewer bytes behind the number than it says, by one, by all, and by more than there can be.
func TestTakeTextOfTooFewBytes(t *testing.T) {
	for _, text := range someTexts() {
		s := wire.PutText(text)
		for _, less := range []int{1, (len(text) + 1) / 2, len(text), len(text) + 1} {
			if less > 0 {
				if got, rest, e := wire.TakeText(s[:len(s)-less], greatest); got != "" || rest != "" || e != api.ErrForm {
					t.Errorf("%d bytes less of %d: %q, %q, %v", less, len(text), got, rest, e)
				}
			}
		}
	}
	for _, n := range []uint64{4, 1 << 31, 1 << 32, 1 << 62, 1<<63 - 1} {
		if got, rest, e := wire.TakeText(wire.Put(n)+"abc", greatest); got != "" || rest != "" || e != api.ErrForm {
			t.Errorf("%d bytes: %q, %q, %v", n, got, rest, e)
		}
	}
}

// B2: of two errors the first one: of the number, then of its bound, then of the bytes behind it.
func TestTakeTextErrors(t *testing.T) {
	for _, c := range []struct {
		s    string
		most int
		want api.Errno
	}{
		{"", -1, api.ErrForm},
		{"\x01\x00abc", -1, api.ErrForm},
		{"\x09abc", 0, api.ErrForm},
		{"\x02\x01", 0, api.ErrForm},
		{"\x01\x04abc", 3, api.ErrBig},
		{"\x01\x04abc", 4, api.ErrForm},
		{"\x01\x01", least, api.ErrBig},
		{wire.Put(1 << 63), greatest, api.ErrBig},
		{wire.Put(1<<64 - 1), greatest, api.ErrBig},
		{wire.Put(1<<64 - 1), least, api.ErrBig},
	} {
		if got, rest, e := wire.TakeText(c.s, c.most); got != "" || rest != "" || e != c.want {
			t.Errorf("TakeText(%q, %d) = %q, %q, %v", c.s, c.most, got, rest, e)
		}
	}
}

// B2, B4: TakeText of all short texts, by each bound; what it takes was put so.
func TestTakeTextOfEachText(t *testing.T) {
	eachText(func(s string) {
		for _, most := range bounds {
			text, rest, e := wire.TakeText(s, most)
			if want, behind, f := oughtTakeText(s, most); text != want || rest != behind || e != f {
				t.Errorf("TakeText(%q, %d) = %q, %q, %v", s, most, text, rest, e)
			}
			if e == api.OK && wire.PutText(text)+rest != s {
				t.Errorf("TakeText(%q, %d) = %q, %q, which was put otherwise", s, most, text, rest)
			}
		}
	})
}
