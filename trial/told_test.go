package trial

import "testing"

// Of a fault it is told, be it one by a format alone; of none it isn't, and what comes behind a fault isn't done.
func TestTold(t *testing.T) {
	if Told(func(t T) { t.Helper() }) {
		t.Error("of nothing a fault is told")
	}
	behind := false
	fault := Told(func(t T) {
		t.Fatalf("a fault of %d", 1)
		behind = true
	})
	if !fault || behind || !Told(func(t T) { t.Fatalf("") }) {
		t.Errorf("of a fault it is told: %v, what comes behind it is done: %v", fault, behind)
	}
}
