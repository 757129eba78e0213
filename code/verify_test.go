package code_test

import (
	"fmt"
	"math"
	"strings"
	"testing"

	"plantwright/api"
	"plantwright/code"
)

var errCode = api.Fault{Code: api.ErrCode}

// may: texts of a program of four words that pass.
func may(t *testing.T, l ...string) {
	t.Helper()
	for _, s := range l {
		if _, f := code.Verify(codeOf(proc(4, s))); f != (api.Fault{}) {
			t.Errorf("%s: %v", s, f)
		}
	}
}

// mayNot: those that do not.
func mayNot(t *testing.T, l ...string) {
	t.Helper()
	for _, s := range l {
		stops(t, s, codeOf(proc(4, s)), errCode)
	}
}

func TestUnits(t *testing.T) {
	passes(t, "none", codeOf())
	var many []api.Proc
	for range api.MaxUnits {
		many = append(many, proc(1, "Late"))
	}
	passes(t, "most", codeOf(many...), 1, 1, 1, 1, 1, 1, 1, 1, 1, 1, 1, 1, 1, 1, 1, 1)
	stops(t, "too many", codeOf(append(many, proc(0, ""))...), errCode)
	// more than MaxUnits is told ahead of what is wrong with one
	many[3].Text = asm("Drop")
	stops(t, "a wrong one", codeOf(many...), api.Fault{Code: api.ErrCode, Unit: 3})
	stops(t, "too many", codeOf(append(many, proc(0, ""))...), errCode)
	// the first unit that may not be is told
	many[5].Kind = 0
	many[2].Text = asm("Push 1")
	stops(t, "several", codeOf(many...), api.Fault{Code: api.ErrCode, Unit: 2})
}

func TestKindsOfUnits(t *testing.T) {
	for kind := api.UnitKind(-2); kind < 7; kind++ {
		p := api.Proc{Kind: kind, First: []int{0}, Text: asm("Late")}
		if kind >= api.Program && kind <= api.Block {
			passes(t, fmt.Sprint(kind), codeOf(p), 1)
		} else {
			stops(t, fmt.Sprint(kind), codeOf(p), errCode)
		}
	}
	stops(t, "kind", codeOf(api.Proc{Kind: math.MaxInt}), errCode)
	stops(t, "kind", codeOf(api.Proc{Kind: math.MinInt}), errCode)
}

func TestSizesOfUnits(t *testing.T) {
	passes(t, "frame", codeOf(proc(api.MaxFrame, "Load 19999, Store 0")), 2)
	stops(t, "frame", codeOf(proc(api.MaxFrame+1, "")), errCode)
	passes(t, "text", codeOf(proc(0, fmt.Sprint(api.MaxCode, " Late"))), api.MaxCode)
	stops(t, "text", codeOf(proc(0, fmt.Sprint(api.MaxCode+1, " Late"))), errCode)
}

// Slots and names are not looked at.
func TestSlotsAreNotLookedAt(t *testing.T) {
	p := proc(1, "Late")
	p.Name = "no name"
	p.Slots = []api.Slot{{Path: "??", Kind: 77, At: -5, Len: -1, Role: 99}}
	passes(t, "slots", codeOf(p, p), 1, 1)
}

func TestUnknownInstructions(t *testing.T) {
	for _, do := range []int{0, -1, 19, 20, math.MaxInt, math.MinInt} {
		p := proc(4, "")
		p.Text = []api.Instr{{Do: api.Do(do)}}
		stops(t, fmt.Sprint("do ", do), codeOf(p), errCode)
		p.Text = append(asm("Jump 2"), p.Text...) // even where no way leads to
		stops(t, fmt.Sprint("do ", do), codeOf(p), errCode)
	}
}

// whole: a program around an instruction, so that the stack is right; %s is where the instruction stands.
var whole = []struct{ text, frame string }{
	{"Push 5", "%s, Drop"}, {"Load 3", "%s, Drop"}, {"Store 2", "Push 1, %s"}, {"LoadAt 1 2 3", "Push 1, %s, Drop"}, {"StoreAt 1 2 3", "Push 1, Push 1, %s"},
	{"Work Add Int", "Push 1, Push 1, %s, Drop"}, {"Turn Int Dint", "Push 1, %s, Drop"}, {"Pick", "Push 1, Push 1, Push 1, %s, Drop"}, {"Dup", "Push 1, %s, Drop, Drop"}, {"Drop", "Push 1, %s"},
	{"Jump 1", "%s"}, {"Fall 2", "Push 1, %s"}, {"Enter 1 2", "%s, Round 1 1"}, {"Round 1 1", "Enter 1 2, %s"}, {"Late", "%s"}, {"Fill 1 2 3", "%s"}, {"Std 9 0", "%s"},
}

// Fields that an instruction does not use are 0, wherever it stands.
func TestFieldsThatAreNotUsed(t *testing.T) {
	for _, w := range whole {
		if got := indexOf(doNames, strings.Fields(w.text)[0]); got < 0 {
			t.Fatal(w.text)
		}
		may(t, strings.Replace(w.frame, "%s", w.text, 1))
		x := asm(w.text)[0]
		for field := doFields[x.Do]; field < 3; field++ {
			for _, n := range []int{1, -1, math.MinInt} {
				abc := []string{fmt.Sprint(x.A), fmt.Sprint(x.B), fmt.Sprint(x.C)}
				abc[field] = fmt.Sprint(n)
				s := strings.Fields(w.text)[0] + " " + strings.Join(abc, " ")
				mayNot(t, strings.Replace(w.frame, "%s", s, 1))
			}
		}
	}
	f := api.Proc{Kind: api.Function, First: []int{0}, Text: asm("")}
	p := proc(4, "Run 0 2")
	passes(t, "run", codeOf(f, p), 0, 1)
	p.Text[0].C = 1
	stops(t, "run", codeOf(f, p), api.Fault{Code: api.ErrCode, Unit: 1})
}

func TestWordsOfFrames(t *testing.T) {
	may(t, "Load 0, Store 3", "Push 0, LoadAt 0 4 0, Drop", "Push 0, LoadAt 3 1 0, Drop", "Push 0, Push 0, StoreAt 0 4 0", "Push 0, Push 0, StoreAt 3 1 0", "Fill 0 4 0", "Fill 3 1 0", "Std 9 0",
		"Push 0, LoadAt 0 1 4294967295, LoadAt 0 1 -4294967295, Drop", "Push 0, Push 0, StoreAt 0 1 4294967295, Push 0, Push 0, StoreAt 0 1 -4294967295",
		"Push 9223372036854775807, Drop, Push -9223372036854775808, Drop", "Fill 0 1 9223372036854775807, Fill 0 1 -9223372036854775808")
	mayNot(t, "Load 4, Drop", "Load -1, Drop", "Push 0, Store 4", "Push 0, Store -1", "Load 9223372036854775807, Drop", "Load -9223372036854775808, Drop")
	for _, s := range []string{"0 5 0", "1 4 0", "4 1 0", "3 2 0", "-1 1 0", "-1 2 0", "0 0 0", "1 0 0", "4 0 0", "0 -1 0", "5 -1 0", "9223372036854775807 1 0", "1 9223372036854775807 0", "-9223372036854775808 1 0", "0 -9223372036854775808 0", "-9223372036854775808 -9223372036854775808 0", "9223372036854775807 9223372036854775807 0"} {
		mayNot(t, "Push 0, LoadAt "+s+", Drop", "Push 0, Push 0, StoreAt "+s, "Fill "+s)
	}
	for _, s := range []string{"4294967296", "-4294967296", "9223372036854775807", "-9223372036854775808"} {
		mayNot(t, "Push 0, LoadAt 0 1 "+s+", Drop", "Push 0, Push 0, StoreAt 0 1 "+s)
	}
	stops(t, "no frame", codeOf(proc(0, "Load 0, Drop")), errCode)
}

// The operations that a kind has are those of the first chapter's table.
func TestOperations(t *testing.T) {
	table := map[string]string{
		"Add Sub": "Int Dint Time", "Mul Div Mod": "Int Dint", "And Or Xor": "Bool Word", "Eq Ne": "Bool Int Dint Word Time", "Lt Le Gt Ge": "Int Dint Word Time",
		"Shl Shr Rol Ror": "Word", "Min Max": "Int Dint Word Time", "Not": "Bool Word", "Neg Abs": "Int Dint",
	}
	for ops, kinds := range table {
		for _, op := range strings.Fields(ops) {
			ahead := "Push 1, Push 1, "
			if op == "Not" || op == "Neg" || op == "Abs" {
				ahead = "Push 1, "
			}
			for k, kind := range kindNames {
				s := fmt.Sprint(ahead, "Work ", op, " ", k, ", Drop")
				if k > 0 && strings.Contains(kinds, kind) {
					may(t, s)
					mayNot(t, strings.Replace(s, "Push 1, ", "", 1), "Push 1, "+s) // too few, too many
				} else {
					mayNot(t, s)
				}
			}
			mayNot(t, ahead+"Work "+op+" 6, Drop", ahead+"Work "+op+" -1, Drop")
		}
	}
	for _, op := range []string{"0", "24", "-1", "9223372036854775807"} {
		mayNot(t, "Push 1, Push 1, Work "+op+" 2, Drop", "Push 1, Work "+op+" 2, Drop")
	}
}

func TestTurns(t *testing.T) {
	for from := -1; from < 8; from++ {
		for to := -1; to < 8; to++ {
			s := fmt.Sprintf("Push 1, Turn %d %d, Drop", from, to)
			if from >= 1 && from <= 5 && to >= 1 && to <= 5 && from != to {
				may(t, s)
			} else {
				mayNot(t, s)
			}
		}
	}
}

func TestJumps(t *testing.T) {
	may(t, "Jump 1", "Jump 2, Late", "Push 1, Fall 2", "Push 1, Fall 3, Late", "Late, Jump 2")
	mayNot(t, "Jump 0", "Jump -1", "Jump 2", "Late, Jump 0", "Late, Jump 1", "Late, Jump 3", "Jump 9223372036854775807", "Jump -9223372036854775808",
		"Push 1, Fall 0", "Push 1, Fall 1", "Push 1, Fall 3", "Push 1, Fall -1", "Push 1, Fall 9223372036854775807")
	mayNot(t, "Jump 2, Jump 1", "Jump 2, Jump 3") // where no way leads to
}

func TestCountersAndTimes(t *testing.T) {
	may(t, "Enter 0 1, Round 0 1", "Enter 39 10000, Round 39 1")
	mayNot(t, "Enter 40 1, Round 40 1", "Enter -1 1, Round -1 1", "Enter 0 0, Round 0 1", "Enter 0 10001, Round 0 1", "Enter 0 -1, Round 0 1", "Enter 0 9223372036854775807, Round 0 1", "Enter 9223372036854775807 1, Round 9223372036854775807 1")
}

func TestUnitsThatAreRun(t *testing.T) {
	f := api.Proc{Kind: api.Function, First: noughts(3), Text: asm("Fill 0 1 0")}
	b := api.Proc{Kind: api.Block, First: noughts(3), Text: asm("Late, Late")}
	empty := api.Proc{Kind: api.Block}
	p := proc(3, "")
	run := func(what string, want int, text string) {
		t.Helper()
		main := proc(4, text)
		main.Kind = api.Block
		c := codeOf(f, b, empty, p, main, f)
		if want == 0 {
			stops(t, what, c, api.Fault{Code: api.ErrCode, Unit: 4})
			return
		}
		passes(t, what, c, 1, 2, 0, 0, want, 1)
	}
	run("a function", 2, "Run 0 0")
	run("at the end", 2, "Run 0 1")
	run("a block", 3, "Run 1 1")
	run("beyond the end", 0, "Run 0 2")
	run("far beyond the end", 0, "Run 0 9223372036854775807")
	run("ahead of the beginning", 0, "Run 0 -1")
	run("far ahead of the beginning", 0, "Run 0 -9223372036854775808")
	run("a program", 0, "Run 3 0")
	run("itself", 0, "Run 4 0")
	run("one behind", 0, "Run 5 0")
	run("none", 0, "Run 6 0")
	run("below all", 0, "Run -1 0")
	run("far below all", 0, "Run -9223372036854775808 0")
	run("far above all", 0, "Run 9223372036854775807 0")
	run("of no words", 1, "Run 2 0")
	run("of no words, at the end", 1, "Run 2 4")
	run("of no words, beyond the end", 0, "Run 2 5")
	run("of no words, ahead of the beginning", 0, "Run 2 -1")
	run("where no way leads to", 0, "Jump 2, Run 3 0")
	run("counted where no way leads to", 3, "Jump 2, Run 0 0")
}

func TestStandardBlocksThatAreRun(t *testing.T) {
	for i, words := range []int{8, 8, 8, 7, 7, 11, 3, 3, 4, 4, 4, 5} {
		text := fmt.Sprint("Std ", i+1, " 0")
		passes(t, text, codeOf(proc(words, text)), 1)
		stops(t, text, codeOf(proc(words-1, text)), errCode)
		passes(t, text, codeOf(proc(words+2, fmt.Sprint("Std ", i+1, " 2"))), 1)
		stops(t, text, codeOf(proc(words+2, fmt.Sprint("Std ", i+1, " 3"))), errCode)
		stops(t, text, codeOf(proc(words+2, fmt.Sprint("Std ", i+1, " -1"))), errCode)
	}
	for _, n := range []int{0, -1, 13, math.MaxInt, math.MinInt} {
		stops(t, fmt.Sprint("Std ", n), codeOf(proc(20, fmt.Sprint("Std ", n, " 0"))), errCode)
	}
}

func TestLoops(t *testing.T) {
	may(t,
		"Enter 0 2, Round 0 1", "Enter 0 2, Late, Round 0 1", "Late, Enter 3 2, Late, Round 3 2",
		"Enter 0 2, Enter 1 2, Round 1 2, Round 0 1", "Enter 1 2, Enter 0 2, Round 0 2, Round 1 1", "Enter 0 2, Enter 1 2, Round 1 2, Enter 1 2, Round 1 4, Round 0 1",
		"Enter 0 2, Round 0 1, Enter 0 2, Round 0 3", "Enter 0 2, Late, Enter 1 2, Late, Round 1 3, Late, Round 0 1",
		// ways out of loops, and within them
		"Enter 0 2, Jump 3, Round 0 1", "Enter 0 2, Jump 2, Round 0 1", "Enter 0 2, Enter 1 2, Jump 5, Round 1 2, Round 0 1", "Enter 0 2, Enter 1 2, Jump 4, Round 1 2, Round 0 1", "Enter 0 2, Push 1, Fall 4, Late, Round 0 1",
		// to an Enter, which lies outside its loop
		"Jump 1, Enter 0 2, Round 0 2", "Enter 0 2, Jump 2, Enter 1 2, Round 1 3, Round 0 1", "Push 0, Fall 3, Late, Enter 0 2, Round 0 4",
	)
	mayNot(t,
		"Round 0 0", "Round 0 1", "Late, Round 0 1", "Late, Round 0 0", "Enter 0 2", "Late, Enter 0 2", "Enter 0 2, Late",
		"Enter 0 2, Round 0 0", "Enter 0 2, Round 0 2", "Enter 0 2, Round 0 3", "Enter 0 2, Late, Round 0 2", "Enter 0 2, Late, Round 0 3", "Enter 0 2, Round 0 -1", "Enter 0 2, Round 0 9223372036854775807", "Enter 0 2, Round 0 -9223372036854775808",
		"Enter 0 2, Round 1 1", "Enter 1 2, Round 0 1", "Enter 0 2, Enter 1 2, Round 0 2, Round 1 1",
		"Enter 0 2, Round 0 1, Round 0 1", "Enter 0 2, Round 0 1, Enter 0 2", "Enter 0 2, Enter 0 2, Round 0 2", "Enter 0 2, Enter 0 2, Round 0 1",
		// the Enter behind a Round
		"Round 0 2, Enter 0 2", "Round 0 2, Enter 0 2, Late", "Late, Round 0 3, Enter 0 2, Late",
		// one counter for two loops within one another
		"Enter 0 2, Enter 0 2, Round 0 2, Round 0 1", "Enter 0 2, Enter 1 2, Enter 0 2, Round 0 3, Round 1 2, Round 0 1",
		// loops that lie neither apart nor within
		"Enter 0 2, Enter 1 2, Round 0 1, Round 1 2", "Enter 0 2, Late, Enter 1 2, Late, Round 0 1, Late, Round 1 3",
		// ways into loops
		"Jump 2, Enter 0 2, Round 0 2", "Jump 3, Enter 0 2, Late, Round 0 2", "Push 0, Fall 3, Enter 0 2, Round 0 3", "Enter 0 2, Jump 3, Enter 1 2, Round 1 3, Round 0 1", "Enter 0 2, Jump 4, Enter 1 2, Late, Round 1 3, Round 0 1",
		"Enter 0 2, Jump 4, Round 0 1, Enter 0 2, Round 0 4", "Enter 0 2, Jump 5, Round 0 1, Enter 0 2, Late, Round 0 4",
		// even from where no way leads to
		"Jump 4, Jump 3, Enter 0 2, Round 0 3",
	)
}

func TestStack(t *testing.T) {
	may(t, "", "Push 1, Drop", "2 Push 1, 2 Drop", "Push 1, Jump 2, Drop", "Load 0, Fall 4, Push 1, Drop", "Load 0, Fall 4, Push 1, Jump 5, Push 2, Drop",
		"Push 1, Enter 0 2, Round 0 2, Drop", "Push 1, Enter 0 2, Drop, Push 1, Round 0 2, Drop", "1000 Push 1, 1000 Drop", "999 Push 1, Dup, 1000 Drop", "1000 Push 1, Store 0, Load 0, 1000 Drop", "Push 1, Enter 0 2, Dup, Drop, Round 0 2, Drop")
	mayNot(t, "Push 1", "Drop", "Store 0", "Push 1, 2 Drop", "Dup, Drop, Drop", "Push 1, Dup, Drop", "Fall 1", "Turn Int Word, Drop", "LoadAt 0 1 0, Drop", "StoreAt 0 1 0", "Push 1, StoreAt 0 1 0", "2 Push 1, Pick, Drop", "Pick, Drop", "4 Push 1, Pick, Drop",
		// ways that meet
		"Load 0, Fall 3, Push 1", "Load 0, Fall 3, Push 1, Drop", "Load 0, Fall 4, Push 1, Jump 4, Drop", "Load 0, Fall 4, Push 1, Jump 5, Late, Drop",
		"Push 7, Load 0, Fall 5, Drop, Jump 6, Late",
		// a loop's beginning, though the end is right
		"Enter 0 2, Push 1, Round 0 1, Drop", "Push 1, Enter 0 2, Drop, Round 0 2", "Push 1, Push 1, Enter 0 2, Drop, Round 0 3, Drop", "Enter 0 1, Push 1, Round 0 1, Drop",
		"1001 Push 1, 1001 Drop", "1000 Push 1, Dup, 1001 Drop", "1000 Push 1, Load 0, 1001 Drop",
		// the end, from a jump
		"Push 1, Jump 3, Drop", "Push 1, Load 0, Fall 4, Drop")
	// what no way reaches is not asked, what it goes to neither
	may(t, "Jump 2, Drop", "Jump 2, Push 1", "Jump 3, Push 1, Fall 3", "Jump 4, 3 Dup", "Jump 3, Push 1, Jump 3, Late", "Jump 1004, 1003 Push 1", "Jump 5, Enter 0 2, Push 1, Round 0 2, Drop", "Enter 0 2, Jump 4, Push 1, Round 0 1")
}

func TestBounds(t *testing.T) {
	for text, bound := range map[string]int{
		"":                                     0,
		"Late":                                 1,
		"Push 1, Store 0":                      2,
		"Jump 3, Late, Late":                   3, // reached or not
		"Fill 0 4 1":                           4,
		"Fill 0 1 1, Fill 1 3 7":               4,
		"Std 9 0":                              1,
		"Enter 0 7, Round 0 1":                 8,
		"Enter 0 10000, Late, Round 0 1, Late": 20002,
		"Enter 0 3, Fill 0 4 0, Round 0 1":     16,
		"Enter 0 3, Enter 1 5, Late, Round 1 2, Late, Round 0 1, Late":                   1 + 3*(1+5*2+1+1) + 1,
		"Enter 0 3, Enter 1 5, Round 1 2, Enter 1 2, Fill 0 2 0, Round 1 4, Round 0 1":   1 + 3*(1+5+1+2*3+1),
		"Jump 4, Enter 0 9, Late, Round 0 2":                                             1 + 1 + 18,
		"Enter 0 2, Round 0 1, Enter 0 3, Round 0 3":                                     7,
		"Enter 0 2, Enter 1 3, Enter 2 4, Round 2 3, Round 1 2, Round 0 1":               1 + 2*(1+3*(1+4+1)+1),
		"Load 0, Fall 3, Late, Enter 0 10000, Enter 1 10000, Late, Round 1 5, Round 0 4": 3 + 1 + 10000*(1+2*10000+1),
	} {
		passes(t, text, codeOf(proc(4, text)), bound)
	}
}

var errSlow = api.Fault{Code: api.ErrSlow}

// deep: so many loops of 10000 rounds within one another.
func deep(n int) string {
	s := ""
	for i := range n {
		s += fmt.Sprintf("Enter %d 10000, ", i)
	}
	for i := n - 1; i >= 0; i-- {
		s += fmt.Sprintf("Round %d %d, ", i, i+1)
	}
	return s
}

// A bound is at most MaxBound; else it could take too long.
func TestSlow(t *testing.T) {
	most := "Enter 0 9999, Enter 1 10000, 9 Late, Round 1 2, Round 0 1"
	rest := api.MaxBound - (1 + 9999*(1+10000*10+1))
	passes(t, "most", codeOf(proc(4, most+fmt.Sprint(", ", rest, " Late"))), api.MaxBound)
	stops(t, "one more", codeOf(proc(4, most+fmt.Sprint(", ", rest+1, " Late"))), errSlow)
	stops(t, "three loops", codeOf(proc(4, deep(3))), errSlow)
	stops(t, "all loops", codeOf(proc(4, deep(api.MaxLoops))), errSlow)
	stops(t, "not reached", codeOf(proc(4, "Jump 14, Enter 0 10000, Enter 1 10000, 9 Late, Round 1 3, Round 0 2")), errSlow)
	fast, slow := proc(4, "Enter 0 10000, Enter 1 10000, 8 Late, Round 1 2, Round 0 1"), proc(4, deep(4))
	stops(t, "behind others", codeOf(fast, fast, slow, fast), api.Fault{Code: api.ErrSlow, Unit: 2})
	// what else is wrong with a unit is told ahead of that, and a unit ahead of the next
	stops(t, "the stack", codeOf(proc(4, deep(3)+"Drop")), errCode)
	stops(t, "a field", codeOf(proc(4, deep(3)+"Late 1")), errCode)
	stops(t, "both", codeOf(proc(4, "Drop"), slow), errCode)
	stops(t, "both", codeOf(slow, proc(4, "Drop")), errSlow)
}

// Units that are run count with their bounds, however great these are.
func TestSlowUnits(t *testing.T) {
	f := api.Proc{Kind: api.Function, First: noughts(1), Text: asm("Enter 0 10000, Enter 1 10000, 2 Late, Round 1 2, Round 0 1")}
	bound := 1 + 10000*(1+3*10000+1)
	g := api.Proc{Kind: api.Function, First: noughts(1), Text: asm("3 Run 0 0")}
	passes(t, "three", codeOf(f, g, f), bound, 3*(1+bound), bound)
	g.Text = asm("4 Run 0 0")
	stops(t, "four", codeOf(f, g), api.Fault{Code: api.ErrSlow, Unit: 1})
	g.Text = asm("Enter 0 3, Run 0 0, Round 0 1")
	passes(t, "three rounds", codeOf(f, g), bound, 1+3*(2+bound))
	g.Text = asm("Enter 0 4, Run 0 0, Round 0 1")
	stops(t, "four rounds", codeOf(f, g), api.Fault{Code: api.ErrSlow, Unit: 1})
	g.Text = asm(deep(2) + "50000 Run 0 0")
	stops(t, "many", codeOf(f, g), api.Fault{Code: api.ErrSlow, Unit: 1})
	// so long that sums would run over, were they not cut
	g.Text = asm("Enter 0 10000, Enter 1 10000, Enter 2 10000, 90000 Run 0 0, Round 2 3, Round 1 2, Round 0 1")
	stops(t, "very many", codeOf(f, g), api.Fault{Code: api.ErrSlow, Unit: 1})
	fill := proc(api.MaxFrame, "Enter 0 10000, Enter 1 10000, 9 Fill 0 20000 1, Round 1 2, Round 0 1")
	stops(t, "fills", codeOf(fill), errSlow)
	fill = proc(api.MaxFrame, "Enter 0 5, 9999 Fill 0 20000 1, Round 0 1")
	passes(t, "fills", codeOf(fill), 1+5*(9999*20000+1))
	fill = proc(api.MaxFrame, "Enter 0 5, 10000 Fill 0 20000 1, Round 0 1")
	stops(t, "fills", codeOf(fill), errSlow)
}
