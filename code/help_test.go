package code_test

import (
	"fmt"
	"reflect"
	"strconv"
	"strings"
	"testing"

	"plantwright/api"
	"plantwright/code"
	"plantwright/source"
)

// die gives numbers that look drawn, the same each time.
type die uint64

func (d *die) n(most int) int {
	*d = *d*6364136223846793005 + 1442695040888963407
	return int(uint64(*d>>33) % uint64(most))
}

func pick[T any](d *die, l ...T) T {
	return l[d.n(len(l))]
}

var (
	doNames = strings.Fields("- Push Load Store LoadAt StoreAt Work Turn Pick Dup Drop Jump Fall Enter Round Late Fill Run Std")
	// doFields: how many fields an instruction uses.
	doFields  = []int{0, 1, 1, 1, 3, 3, 2, 2, 0, 0, 0, 1, 1, 2, 2, 0, 3, 2, 2}
	opNames   = strings.Fields("- Add Sub Mul Div Mod And Or Xor Eq Ne Lt Le Gt Ge Shl Shr Rol Ror Min Max Not Neg Abs")
	kindNames = strings.Fields("None Bool Int Dint Word Time")
)

func indexOf(l []string, s string) int {
	for i := range l {
		if l[i] == s {
			return i
		}
	}
	return -1
}

// number: of a word that an instruction is written with.
func number(s string) int {
	if i := indexOf(opNames, s); i > 0 {
		return i
	}
	if i := indexOf(kindNames, s); i >= 0 {
		return i
	}
	n, err := strconv.Atoi(s)
	if err != nil {
		panic(s)
	}
	return n
}

// asm: instructions as the chapter's examples write them, with commas between them.
func asm(s string) []api.Instr {
	var l []api.Instr
	for _, line := range strings.Split(s, ",") {
		f := strings.Fields(line)
		if len(f) == 0 {
			continue
		}
		times := 1
		if n, err := strconv.Atoi(f[0]); err == nil { // 3 Dup: three of them
			times, f = n, f[1:]
		}
		var abc [3]int
		for i, w := range f[1:] {
			abc[i] = number(w)
		}
		for range times {
			l = append(l, api.Instr{Do: api.Do(indexOf(doNames, f[0])), A: abc[0], B: abc[1], C: abc[2]})
		}
	}
	return l
}

// listing: the same back again, with all fields that are used, and others that are not 0.
func listing(l []api.Instr) string {
	var out []string
	for _, x := range l {
		abc := []int{x.A, x.B, x.C}
		n := 3
		for n > 0 && abc[n-1] == 0 {
			n--
		}
		s := fmt.Sprint("Do", int(x.Do))
		if x.Do > 0 && int(x.Do) < len(doNames) {
			s, n = doNames[x.Do], max(n, doFields[x.Do])
		}
		for i, w := range abc[:n] {
			switch {
			case x.Do == api.Work && i == 0 && w > 0 && w < len(opNames):
				s += " " + opNames[w]
			case (x.Do == api.Work && i == 1 || x.Do == api.Turn && i < 2) && w >= 0 && w < len(kindNames):
				s += " " + kindNames[w]
			default:
				s += fmt.Sprint(" ", w)
			}
		}
		out = append(out, s)
	}
	return strings.Join(out, ", ")
}

// same: is it the same listing, but for blanks?
func same(t *testing.T, what string, got []api.Instr, want string) {
	t.Helper()
	if g, w := listing(got), listing(asm(want)); g != w {
		t.Errorf("%s:\n%s\nnot\n%s", what, g, w)
	}
}

func parsed(t *testing.T, text string) []api.Unit {
	t.Helper()
	us, f := source.Parse(text)
	if f != (api.Fault{}) {
		t.Fatalf("Parse(%q): %v", text, f)
	}
	return us
}

// compiled: the code of a text that is right; it passes Verify.
func compiled(t *testing.T, text string, gs ...api.Global) api.Code {
	t.Helper()
	us := parsed(t, text)
	c, f := code.Compile(us, gs)
	if f != (api.Fault{}) || len(c.Procs) != len(us) {
		t.Fatalf("Compile(%q): %v, %d units", text, f, len(c.Procs))
	}
	if b, f := code.Verify(c); f != (api.Fault{}) || len(b) != len(us) {
		t.Fatalf("Verify of %q: %v, %d bounds", text, f, len(b))
	}
	return c
}

// refused: does Compile tell this fault, and nothing else?
func refused(t *testing.T, us []api.Unit, gs []api.Global, want api.Fault) {
	t.Helper()
	if c, f := code.Compile(us, gs); f != want || len(c.Procs) != 0 {
		t.Errorf("%v and %d units, not %v", f, len(c.Procs), want)
	}
}

// proc: a program of so many words.
func proc(words int, text string) api.Proc {
	return api.Proc{Kind: api.Program, First: make([]int, words), Text: asm(text)}
}

func codeOf(l ...api.Proc) api.Code {
	return api.Code{Procs: l}
}

// passes: does Verify pass the code, with these bounds?
func passes(t *testing.T, what string, c api.Code, bounds ...int) {
	t.Helper()
	b, f := code.Verify(c)
	if f != (api.Fault{}) || len(b) != len(bounds) || len(b) > 0 && !reflect.DeepEqual(b, bounds) {
		t.Errorf("%s: %v, %v, not %v", what, b, f, bounds)
	}
}

// stops: does Verify tell a fault, and Run ErrCode?
func stops(t *testing.T, what string, c api.Code, want api.Fault) {
	t.Helper()
	if b, f := code.Verify(c); f != want || len(b) != 0 {
		t.Errorf("%s: %v, %v, not %v", what, b, f, want)
	}
	if r := code.Run(c, 0, nil, 0); r.Code != api.ErrCode || r.Steps != 0 || r.Faults != 0 || len(r.Frame) != 0 {
		t.Errorf("%s: ran: %v", what, r)
	}
}

// ran: does a run leave this frame, with so many steps and faults?
func ran(t *testing.T, what string, got api.Ran, steps, faults int, frame ...int) {
	t.Helper()
	if got.Code != api.OK || got.Steps != steps || got.Faults != faults || len(got.Frame) != len(frame) || len(frame) > 0 && !reflect.DeepEqual(got.Frame, frame) {
		t.Errorf("%s: %v, not %v, %d steps, %d faults", what, got, frame, steps, faults)
	}
}

func itoa(n int) string {
	return strconv.Itoa(n)
}
