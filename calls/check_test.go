package calls_test

import (
	"strings"
	"testing"

	"quietus/api"
	. "quietus/calls"
	"quietus/plainmap"
)

// These are written out, so that the tests don't lean on the names that they hold.
const (
	getKind    Kind = 0
	putKind    Kind = 1
	deleteKind Kind = 2
	resizeKind Kind = 3
)

// bytesOf are texts of so many bytes, of whatever bytes: one that is text, noughts, bytes that are no text, and such of which fewer runes than bytes are made.
func bytesOf(n int) []string {
	return []string{strings.Repeat("k", n), strings.Repeat("\x00", n), strings.Repeat("\xff", n), strings.Repeat("\xc3", n), strings.Repeat("\xc3\xa4", n)[:n], strings.Repeat(" ", n)}
}

// text is a key or a value, and whether it may be.
type text struct {
	bytes string
	may   bool
}

// texts are those of the lengths that may be just, and of those next to them.
func texts(may, mayNot []int) []text {
	var l []text
	for _, n := range may {
		for _, bytes := range bytesOf(n) {
			l = append(l, text{bytes, true})
		}
	}
	for _, n := range mayNot {
		for _, bytes := range bytesOf(n) {
			l = append(l, text{bytes, false})
		}
	}
	return l
}

// someKeys are keys that may be, and such that may not.
func someKeys() []text { return texts([]int{1, 2, 31, 32}, []int{0, 33, 34, 64, 288, 65537}) }

// someVals are values that may be, and such that may not.
func someVals() []text { return texts([]int{0, 1, 31, 32}, []int{33, 34, 64, 288, 65537}) }

// eachCall does something of a kind with each of some keys and values, and sizes.
func eachCall(kind Kind, do func(c Call, key, val bool)) {
	l := plainmap.Sizes()
	for i, key := range someKeys() {
		for j, val := range someVals() {
			do(Call{Kind: kind, Key: key.bytes, Val: val.bytes, Size: l[(i+j)%len(l)]}, key.may, val.may)
		}
	}
	for _, size := range l {
		do(Call{Kind: kind, Key: "k", Size: size}, true, true)
		do(Call{Kind: kind, Size: size}, false, true)
	}
}

// checkIs says whether Check of a call is this, however often it is asked.
func checkIs(t *testing.T, c Call, want api.Errno) {
	t.Helper()
	for range 2 {
		if e := c.Check(); e != want {
			t.Fatalf("Check of %#v = %v, not %v", c, e, want)
		}
	}
}

// P16.1: of a Kind that is none Check is form, whatever else the call has, be it wrong or not.
func TestCheckForm(t *testing.T) {
	for _, kind := range plainmap.NotKinds() {
		eachCall(kind, func(c Call, _, _ bool) { checkIs(t, c, api.ErrForm) })
	}
}

// P16.1: of a Get, a Put and a Delete Check is key, if the key may not be: of 0 bytes, or of 33 and more, of whatever bytes; of a Put alone, if the value may not be: of 33 bytes and more; else it is OK, whatever the size is.
func TestCheckKey(t *testing.T) {
	for _, kind := range []Kind{getKind, putKind, deleteKind} {
		eachCall(kind, func(c Call, key, val bool) {
			want := api.OK
			if !key || kind == putKind && !val {
				want = api.ErrKey
			}
			checkIs(t, c, want)
		})
	}
}

// P16.1: of a Resize Check is OK, whatever its key, its value and its size are.
func TestCheckResize(t *testing.T) {
	eachCall(resizeKind, func(c Call, _, _ bool) { checkIs(t, c, api.OK) })
}

// P16.1: the zero Call is a Get without a key.
func TestCheckZero(t *testing.T) {
	checkIs(t, Call{}, api.ErrKey)
}

// P16.1: the kinds are these numbers, and a kind's word is its own; that of other numbers is none.
func TestString(t *testing.T) {
	for i, kind := range []Kind{Get, Put, Delete, Resize} {
		if int(kind) != i {
			t.Errorf("the kind %d is %d", i, int(kind))
		}
		if word := []string{"get", "put", "delete", "resize"}[i]; kind.String() != word {
			t.Errorf("the word of %d is %q, not %q", i, kind.String(), word)
		}
	}
	for _, kind := range plainmap.NotKinds() {
		if kind.String() != "none" {
			t.Errorf("the word of %d is %q", int(kind), kind.String())
		}
	}
}
