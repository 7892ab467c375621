package trial

// ear hears whether there is a fault.
type ear struct{ fault bool }

// Helper is there to be a T.
func (*ear) Helper() {}

// Fatalf hears of a fault, and ends what told it.
func (e *ear) Fatalf(string, ...any) {
	e.fault = true
	panic(e)
}

// Told says whether of what is done a fault is told: so what tests share is tested itself.
func Told(do func(t T)) (fault bool) {
	e := &ear{}
	defer func() { fault = recover() == any(e) && e.fault }()
	do(e)
	return false
}
