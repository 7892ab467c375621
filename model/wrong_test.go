package model

import (
	"strings"
	"testing"

	"quietus/api"
	"quietus/calls"
	"quietus/plainmap"
)

// bytesOf are texts of so many bytes, of whatever bytes.
func bytesOf(n int) []string {
	var l []string
	for _, b := range []string{"k", "\x00", "\xff", "\xc3", " ", "\n"} {
		l = append(l, strings.Repeat(b, n))
	}
	return l
}

// P19.1, R1: keys of each length round those that may be, and values of a Put's: of such that may be a Put, a Get and a Delete do what they have to; of others they are refused, whether full or not.
func TestLengths(t *testing.T) {
	for _, n := range []int{0, 1, 2, 31, 32, 33, 34, 64, 288, 65537} {
		for _, text := range bytesOf(n) {
			keyErr, valErr := api.OK, api.OK
			if n == 0 || n > 32 {
				keyErr = api.ErrKey
			}
			if n > 32 {
				valErr = api.ErrKey
			}
			v := versionOf(t, some())
			for _, c := range []plainmap.Refused{
				{Call: get(text), Err: keyErr},
				{Call: put(text, "v"), Err: keyErr},
				{Call: put("a", text), Err: valErr},
				{Call: put("new", text), Err: valErr},
				{Call: get("new")},
				{Call: calls.Call{Kind: calls.Get, Key: text, Val: text}, Err: keyErr},
				{Call: del(text), Err: keyErr},
				{Call: calls.Call{Kind: calls.Delete, Key: "a", Val: text}},
				{Call: calls.Call{Kind: calls.Resize, Key: text, Val: text, Size: 8}},
			} {
				v.do(t, c, true).check(t)
				v = v.do(t, c, false)
				v.check(t)
			}
		}
	}
}

// P19.1, R1: of a Kind that is none, whatever else the call has, it is refused for that: nothing is changed, also with a key that is there.
func TestNoKind(t *testing.T) {
	v := versionOf(t, some())
	longer := strings.Repeat("k", 33)
	for _, kind := range plainmap.NotKinds() {
		for _, size := range plainmap.Sizes() {
			for _, key := range []string{"", "a", "d", longer} {
				for _, full := range []bool{false, true} {
					v.fails(t, calls.Call{Kind: kind, Key: key, Val: key, Size: size}, full, api.ErrForm)
				}
			}
		}
	}
	v.check(t)
}

// P19.1, P19.2: each byte is a key of its own, and a value: none is taken for another one.
func TestWhateverBytes(t *testing.T) {
	var v version
	for b := range 256 {
		v = v.do(t, plainmap.Refused{Call: put(string([]byte{byte(b)}), string([]byte{byte(255 - b)}))}, false)
		v.check(t)
	}
	if v.is.Len() != 256 {
		t.Errorf("there are %d keys", v.is.Len())
	}
	for b := range 256 {
		text, val := string([]byte{byte(b)}), string([]byte{byte(255 - b)})
		var r calls.Result
		if v.is, r = v.is.Do(del(text), b%2 == 0); r != (calls.Result{Had: true, Val: val}) || v.is.Len() != 255-b {
			t.Errorf("the delete of %q answers %#v", text, r)
		}
	}
}
