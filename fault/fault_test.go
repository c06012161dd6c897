package fault_test

import (
	"errors"
	"fmt"
	"io"
	"slices"
	"strings"
	"testing"

	"leadline/api"
	"leadline/fault"
)

// numbers: all numbers of errors that there are, nought, and some that have no name.
var numbers = []api.Errno{
	api.OK, api.ErrRange, api.ErrOver, api.ErrZero, api.ErrSize, api.ErrBytes, api.ErrSum, api.ErrKind, api.ErrUnits, api.ErrStale,
	api.ErrLoose, api.ErrTight, api.ErrGate, api.ErrNear, api.ErrPlace, api.ErrFull, api.ErrNone, api.ErrThere, api.ErrStore, api.ErrConfig, api.ErrPower,
	1, 29, -1, 1 << 40,
}

// other: an error that is none of the project's.
var other = errors.New("other")

// labelled is an error of a type of its own, in which other ones may be found.
type labelled struct {
	label string
	err   error
}

func (e labelled) Error() string { return e.label }
func (e labelled) Unwrap() error { return e.err }

// many is a joined error that keeps nils, and that can't be compared.
type many []error

func (m many) Error() string   { return "many" }
func (m many) Unwrap() []error { return m }

// takes is an error that says by itself which number it is.
type takes struct{ n api.Errno }

func (e takes) Error() string { return "takes" }
func (e takes) Is(target error) bool {
	return target == e.n
}
func (e takes) As(target any) bool {
	if n, ok := target.(*api.Errno); ok {
		*n = e.n
		return true
	}
	return false
}

// refuses is an error that writes a number, and says that it hasn't one.
type refuses struct{}

func (refuses) Error() string { return "refuses" }
func (refuses) As(target any) bool {
	if n, ok := target.(*api.Errno); ok {
		*n = api.ErrGate
	}
	return false
}

// unlucky is an error that panics, whatever it is asked.
type unlucky struct{}

func (unlucky) Error() string   { panic("Error") }
func (unlucky) Unwrap() []error { panic("Unwrap") }
func (unlucky) Is(error) bool   { panic("Is") }
func (unlucky) As(any) bool     { panic("As") }

// late is an error that panics when it has written a number already.
type late struct{}

func (late) Error() string { return "late" }
func (late) As(target any) bool {
	*target.(*api.Errno) = api.ErrGate
	panic("As")
}

// wrapped tells err in Faults of these Ops, the outermost first.
func wrapped(err error, ops ...string) error {
	for _, op := range slices.Backward(ops) {
		err = fault.Wrap(op, err)
	}
	return err
}

func TestWrapOfNil(t *testing.T) {
	for _, op := range []string{"", "gate", "a: b"} {
		if err := fault.Wrap(op, nil); err != nil {
			t.Errorf("P4.1: Wrap(%q, nil): %v", op, err)
		}
	}
}

func TestWrapIsAFault(t *testing.T) {
	for i, err := range []error{api.ErrGate, api.OK, other, io.EOF, labelled{"label", other}, many{nil, other}, many{}, fault.Wrap("in", api.ErrOver), fault.Join(other, api.ErrOver), &fault.Fault{}, (*fault.Fault)(nil)} {
		for _, op := range []string{"gate", "", "a: b", "\x00\xff"} {
			out := fault.Wrap(op, err)
			f, ok := out.(*fault.Fault)
			if !ok {
				t.Fatalf("P4.1: Wrap %d is a %T", i, out)
			}
			if f.Op != op {
				t.Errorf("P4.1: Wrap %d: Op %q instead of %q", i, f.Op, op)
			}
			if got, want := fmt.Sprintf("%T %v", f.Err, f.Err), fmt.Sprintf("%T %v", err, err); got != want {
				t.Errorf("P4.1: Wrap %d: Err %s instead of %s", i, got, want)
			}
			if again := fault.Wrap(op, err); again.(*fault.Fault) == f {
				t.Errorf("P4.1: Wrap %d tells the same memory again", i)
			}
		}
	}
}

// TestWrappedIsFound: what is in a Fault is found by errors.Is and errors.As, however deep it is.
func TestWrappedIsFound(t *testing.T) {
	label := labelled{"label", other}
	for _, ops := range [][]string{{"a"}, {"a", "b"}, {"a", "b", "c", "d", "e"}} {
		err := wrapped(label, ops...)
		if !errors.Is(err, other) || !errors.Is(err, label) || errors.Is(err, io.EOF) {
			t.Errorf("P4.1: %q: errors.Is", ops)
		}
		var l labelled
		if !errors.As(err, &l) || l != label {
			t.Errorf("P4.1: %q: errors.As of a label: %v", ops, l)
		}
		var f *fault.Fault
		if !errors.As(err, &f) || f.Op != "a" {
			t.Errorf("P4.1: %q: errors.As of a Fault: %v", ops, f)
		}
		var n api.Errno
		if errors.As(err, &n) {
			t.Errorf("P4.1: %q: errors.As of a number: %v", ops, n)
		}
		for _, want := range numbers {
			err := wrapped(want, ops...)
			if !errors.Is(err, want) || !errors.As(err, &n) || n != want {
				t.Errorf("P4.1: %q of %d: %d", ops, want, n)
			}
		}
	}
}

func TestErrorAndUnwrap(t *testing.T) {
	for _, x := range []struct {
		f    fault.Fault
		want string
	}{
		{fault.Fault{Op: "gate", Err: api.ErrGate}, "gate: err 32"},
		{fault.Fault{Op: "gate"}, "gate: nil"},
		{fault.Fault{}, ": nil"},
		{fault.Fault{Err: api.ErrOver}, ": err 21"},
		{fault.Fault{Op: "a", Err: api.OK}, "a: err 0"},
		{fault.Fault{Op: "a", Err: other}, "a: other"},
		{fault.Fault{Op: "a", Err: errors.New("")}, "a: "},
		{fault.Fault{Op: "a", Err: labelled{"label", other}}, "a: label"},
		{fault.Fault{Op: "a: b", Err: &fault.Fault{Op: "c", Err: io.EOF}}, "a: b: c: EOF"},
		{fault.Fault{Op: "a", Err: &fault.Fault{Op: "b"}}, "a: b: nil"},
		{fault.Fault{Op: "a", Err: errors.Join(other, api.ErrSum)}, "a: other\nerr 25"},
	} {
		if got := x.f.Error(); got != x.want {
			t.Errorf("P4.1: Error: %q instead of %q", got, x.want)
		}
		if got := x.f.Unwrap(); got != x.f.Err {
			t.Errorf("P4.1: %q: Unwrap: %v", x.want, got)
		}
		if got := fault.Text(&x.f); got != x.want {
			t.Errorf("P4.2: Text: %q instead of %q", got, x.want)
		}
	}
}

func TestJoinOfNone(t *testing.T) {
	for i, err := range []error{fault.Join(), fault.Join(nil), fault.Join(nil, nil, nil), fault.Join([]error{}...)} {
		if err != nil {
			t.Errorf("P4.1: Join %d of no errors: %v", i, err)
		}
	}
}

func TestJoin(t *testing.T) {
	gate := fault.Wrap("gate", api.ErrGate)
	for i, l := range [][]error{{other}, {gate}, {api.OK}, {nil, gate}, {gate, nil}, {nil, nil, other, nil, gate, nil}, {other, io.EOF, gate}, {gate, gate}, {many{}, errors.Join(other, gate)}} {
		got, want := fault.Join(l...), errors.Join(l...)
		if a, b := fmt.Sprintf("%T %q", got, got.Error()), fmt.Sprintf("%T %q", want, want.Error()); a != b {
			t.Errorf("P4.1: Join %d: %s instead of %s", i, a, b)
		}
		a, b := got.(interface{ Unwrap() []error }).Unwrap(), want.(interface{ Unwrap() []error }).Unwrap()
		if x, y := fmt.Sprintf("%v", a), fmt.Sprintf("%v", b); x != y {
			t.Errorf("P4.1: Join %d joins %s instead of %s", i, x, y)
		}
		for _, n := range numbers {
			if errors.Is(got, n) != errors.Is(want, n) {
				t.Errorf("P4.1: Join %d: errors.Is of %d", i, n)
			}
		}
	}
}

// TestJoinKeepsNoList: the list that is handed in is the caller's, before and after.
func TestJoinKeepsNoList(t *testing.T) {
	room := []error{nil, api.ErrGate, other, io.EOF}
	l := room[:3]
	err := fault.Join(l...)
	if l[0] != nil || l[1] != api.ErrGate || l[2] != other || room[3] != io.EOF {
		t.Errorf("P4.1: Join changed the list: %v", room)
	}
	l[1] = api.ErrOver
	if got := err.Error(); got != "err 32\nother" {
		t.Errorf("P4.1: Join kept the list: %q", got)
	}
}

// told: an error, and what is to be told of it.
type told struct {
	name string
	err  error
	code api.Errno
	ops  []string
	text string
}

// cases tells errors of all kinds.
func cases() []told {
	gate := fault.Wrap("gate", api.ErrGate)
	return []told{
		{"nil", nil, api.OK, nil, ""},
		{"a number", api.ErrGate, api.ErrGate, nil, "err 32"},
		{"the number of no error", api.OK, api.OK, nil, "err 0"},
		{"the number of none", api.ErrNone, api.ErrNone, nil, "err 36"},
		{"a number without a name", api.Errno(-7), -7, nil, "err -7"},
		{"none of ours", other, api.ErrNone, nil, "other"},
		{"none of ours, without words", errors.New(""), api.ErrNone, nil, ""},
		{"none of ours in one of ours", fault.Wrap("a", io.EOF), api.ErrNone, []string{"a"}, "a: EOF"},
		{"a Fault", gate, api.ErrGate, []string{"gate"}, "gate: err 32"},
		{"no error's number in a Fault", fault.Wrap("a", api.OK), api.OK, []string{"a"}, "a: err 0"},
		{"a Fault of nothing", &fault.Fault{Op: "a"}, api.ErrNone, []string{"a"}, "a: nil"},
		{"a Fault of nothing at all", &fault.Fault{}, api.ErrNone, []string{""}, ": nil"},
		{"a Fault of nothing in a Fault", fault.Wrap("b", &fault.Fault{Op: "a"}), api.ErrNone, []string{"b", "a"}, "b: a: nil"},
		{"Faults in Faults", wrapped(api.ErrOver, "nav", "info", "sym"), api.ErrOver, []string{"nav", "info", "sym"}, "nav: info: sym: err 21"},
		{"the same Ops, and none", wrapped(api.ErrOver, "a", "", "a", "a"), api.ErrOver, []string{"a", "", "a", "a"}, "a: : a: a: err 21"},
		{"a Fault in another error", labelled{"label", gate}, api.ErrGate, nil, "label"},
		{"a Fault in a formatted error", fmt.Errorf("put: %w", gate), api.ErrGate, nil, "put: gate: err 32"},
		{"a Fault, another error, a Fault", fault.Wrap("a", labelled{"label", gate}), api.ErrGate, []string{"a"}, "a: label"},
		{"one that is joined", fault.Join(gate), api.ErrGate, []string{"gate"}, "gate: err 32"},
		{"joined, nils first", fault.Join(nil, nil, wrapped(api.ErrSum, "a", "b"), gate), api.ErrSum, []string{"a", "b"}, "a: b: err 25\ngate: err 32"},
		{"joined, a Fault second", fault.Join(other, gate), api.ErrGate, nil, "other\ngate: err 32"},
		{"joined, a number first", fault.Join(api.ErrSum, gate), api.ErrSum, nil, "err 25\ngate: err 32"},
		{"joined, a Fault without a number first", fault.Join(fault.Wrap("a", other), gate), api.ErrGate, []string{"a"}, "a: other\ngate: err 32"},
		{"joined, a Fault of nothing first", fault.Join(&fault.Fault{Op: "a"}, gate), api.ErrGate, []string{"a"}, "a: nil\ngate: err 32"},
		{"joined in what is joined", fault.Join(nil, fault.Join(fault.Join(nil, gate), other)), api.ErrGate, []string{"gate"}, "gate: err 32\nother"},
		{"joined in a Fault", fault.Wrap("a", fault.Join(nil, wrapped(api.ErrSum, "b", "c"), gate)), api.ErrSum, []string{"a", "b", "c"}, "a: b: c: err 25\ngate: err 32"},
		{"joined in what is joined in Faults", fault.Join(wrapped(fault.Join(nil, wrapped(api.ErrSum, "c"), gate), "a", "b"), other), api.ErrSum, []string{"a", "b", "c"}, "a: b: c: err 25\ngate: err 32\nother"},
		{"joined by another, nils first", many{nil, nil, gate, other}, api.ErrGate, []string{"gate"}, "many"},
		{"joined by another, none of ours first", many{nil, other, gate}, api.ErrGate, nil, "many"},
		{"joined by another, nils alone", many{nil, nil}, api.ErrNone, nil, "many"},
		{"joined by another, nothing", many(nil), api.ErrNone, nil, "many"},
		{"joined by another in a Fault", fault.Wrap("a", many{nil, gate}), api.ErrGate, []string{"a", "gate"}, "a: many"},
		{"joined by a format", fmt.Errorf("%w, %w", gate, other), api.ErrGate, []string{"gate"}, "gate: err 32, other"},
		{"one that says its number", fault.Wrap("a", takes{api.ErrZero}), api.ErrZero, []string{"a"}, "a: takes"},
		{"one that says its number first", fault.Join(takes{api.ErrZero}, gate), api.ErrZero, nil, "takes\ngate: err 32"},
		{"one that writes a number and has none", fault.Wrap("a", refuses{}), api.ErrNone, []string{"a"}, "a: refuses"},
	}
}

func TestCodeOpsText(t *testing.T) {
	for _, x := range cases() {
		for range 2 { // who asks changes nothing
			if got := fault.Code(x.err); got != x.code {
				t.Errorf("P4.2: Code of %s: %d instead of %d", x.name, got, x.code)
			}
			if got := fault.Ops(x.err); !slices.Equal(got, x.ops) {
				t.Errorf("P4.2: Ops of %s: %q instead of %q", x.name, got, x.ops)
			}
			if got := fault.Text(x.err); got != x.text {
				t.Errorf("P4.2: Text of %s: %q instead of %q", x.name, got, x.text)
			}
		}
	}
}

func TestIs(t *testing.T) {
	for _, x := range cases() {
		for _, n := range append(numbers, -7) {
			if got, want := fault.Is(x.err, n), errors.Is(x.err, n); got != want {
				t.Errorf("P4.2: Is(%s, %d): %v", x.name, n, got)
			}
		}
	}
	gate := wrapped(api.ErrGate, "a", "b")
	for i, x := range []struct {
		err  error
		n    api.Errno
		want bool
	}{
		{nil, api.OK, false}, {nil, api.ErrNone, false}, {nil, api.ErrGate, false},
		{other, api.ErrNone, false}, {other, api.OK, false}, {api.OK, api.OK, true}, {&fault.Fault{Op: "a"}, api.OK, false},
		{api.ErrGate, api.ErrGate, true}, {gate, api.ErrGate, true}, {gate, api.ErrTight, false}, {gate, api.OK, false},
		{labelled{"label", gate}, api.ErrGate, true}, {errors.New("err 32"), api.ErrGate, false},
		{fault.Join(other, nil, gate), api.ErrGate, true}, {fault.Join(api.ErrSum, gate), api.ErrGate, true}, {fault.Join(api.ErrSum, gate), api.ErrSum, true}, // not the first alone
		{many{nil, fault.Wrap("a", many{other, gate})}, api.ErrGate, true}, {takes{api.ErrZero}, api.ErrZero, true}, {takes{api.ErrZero}, api.ErrGate, false},
	} {
		if got := fault.Is(x.err, x.n); got != x.want {
			t.Errorf("P4.2: Is %d: %v", i, got)
		}
	}
}

// TestOpsAreNewMemory: a list that was told is the caller's.
func TestOpsAreNewMemory(t *testing.T) {
	err := wrapped(api.ErrGate, "a", "b", "c")
	ops := fault.Ops(err)
	ops[0], ops[1] = "x", "y"
	if got := fault.Ops(err); !slices.Equal(got, []string{"a", "b", "c"}) {
		t.Errorf("P4.2: Ops behind a change of what they told: %q", got)
	}
}

// TestUnlucky: errors of others that panic are borne.
func TestUnlucky(t *testing.T) {
	var nobody *fault.Fault
	var null *labelled // its methods are called on nil
	gate := fault.Wrap("gate", api.ErrGate)
	for _, x := range []struct {
		name string
		err  error
		code api.Errno
		is   bool // ErrGate
		ops  []string
		text string
	}{
		{"alone", unlucky{}, api.ErrNone, false, nil, ""},
		{"in a Fault", fault.Wrap("a", unlucky{}), api.ErrNone, false, []string{"a"}, "a: "},
		{"joined in Faults", wrapped(fault.Join(nil, unlucky{}), "a", "b"), api.ErrNone, false, []string{"a", "b"}, "a: b: "},
		{"joined, second", fault.Join(gate, unlucky{}), api.ErrGate, true, []string{"gate"}, ""},
		{"when it has written a number", fault.Wrap("a", late{}), api.ErrNone, false, []string{"a"}, "a: late"},
		{"nil of another type", null, api.ErrNone, false, nil, ""},
		{"nil of another type in a Fault", fault.Wrap("a", null), api.ErrNone, false, []string{"a"}, "a: "},
	} {
		if got := fault.Code(x.err); got != x.code {
			t.Errorf("P4.2: Code of an error that panics, %s: %d", x.name, got)
		}
		if got := fault.Is(x.err, api.ErrGate); got != x.is {
			t.Errorf("P4.2: Is of an error that panics, %s: %v", x.name, got)
		}
		if got := fault.Ops(x.err); !slices.Equal(got, x.ops) {
			t.Errorf("P4.2: Ops of an error that panics, %s: %q", x.name, got)
		}
		if got := fault.Text(x.err); got != x.text {
			t.Errorf("P4.2: Text of an error that panics, %s: %q", x.name, got)
		}
	}
	behind := fault.Join(nobody, gate)
	if fault.Code(nobody) != api.ErrNone || len(fault.Ops(nobody)) != 0 || fault.Is(nobody, api.ErrGate) || fault.Text(fault.Wrap("a", nobody)) != "a: nil" {
		t.Errorf("P4.2: a nil Fault: %d, %q, %q", fault.Code(nobody), fault.Ops(nobody), fault.Text(nobody))
	}
	if fault.Code(behind) != api.ErrGate || !fault.Is(behind, api.ErrGate) {
		t.Errorf("P4.2: a Fault behind a nil one: %d", fault.Code(behind))
	}
}

// TestDeep: as many parts in one another as the document allows.
func TestDeep(t *testing.T) {
	const deep = 1 << 12
	ops := slices.Repeat([]string{"x"}, deep)
	err := wrapped(api.ErrPower, ops...)
	if got := fault.Ops(err); !slices.Equal(got, ops) {
		t.Errorf("P4.2: Ops of %d Faults: %d", deep, len(got))
	}
	if got, want := fault.Text(err), strings.Repeat("x: ", deep)+"err 40"; got != want {
		t.Errorf("P4.2: Text of %d Faults: %d bytes instead of %d", deep, len(got), len(want))
	}
	if fault.Code(err) != api.ErrPower || !fault.Is(err, api.ErrPower) || fault.Is(err, api.ErrGate) {
		t.Errorf("P4.2: Code of %d Faults: %d", deep, fault.Code(err))
	}
	var joined error = api.ErrPower
	for range deep / 2 {
		joined = fault.Wrap("x", fault.Join(nil, joined, other))
	}
	if got := fault.Ops(joined); fault.Code(joined) != api.ErrPower || !slices.Equal(got, ops[:deep/2]) {
		t.Errorf("P4.2: joined in Faults: %d, %d", fault.Code(joined), len(got))
	}
}

// TestWhatAndWhere: layers hand an error on, some beside others; the number and the way that it went are found.
func TestWhatAndWhere(t *testing.T) {
	layers := []string{"script", "nav", "info", "solve", "elim", "sym"}
	for _, n := range numbers {
		for k := range layers {
			err := error(n)
			for _, op := range slices.Backward(layers[:k+1]) {
				err = fault.Join(fault.Wrap(op, err), other, fault.Wrap("store", api.ErrPower))
			}
			if fault.Code(err) != n || !fault.Is(err, n) {
				t.Errorf("P4.3: %d through %q: %d", n, layers[:k+1], fault.Code(err))
			}
			if got := fault.Ops(err); !slices.Equal(got, layers[:k+1]) {
				t.Errorf("P4.3: %d through %q: %q", n, layers[:k+1], got)
			}
		}
	}
	if got := fault.Text(fault.Wrap("gate", api.ErrGate)); got != "gate: err 32" {
		t.Errorf("P4.3: the chapter's example: %q", got)
	}
}
