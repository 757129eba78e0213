package plant_test

import (
	"fmt"
	"reflect"
	"slices"
	"strings"
	"testing"

	"plantwright/api"
	"plantwright/bus"
	"plantwright/plant"
)

// die gives numbers that look drawn, the same each time.
type die uint64

func (d *die) n(most int) int {
	*d = *d*6364136223846793005 + 1442695040888963407
	return int(uint64(*d>>33) % uint64(most))
}

func pick[T any](d *die, l ...T) T {
	return l[d.n(len(l))]
}

// list: names, or numbers.
func list[T any](l ...T) []T {
	return l
}

// small: the document's example of the whole.
func small() api.Plan {
	return api.Plan{
		Text:    "PROGRAM p VAR_EXTERNAL run : BOOL; speed : INT; END_VAR VAR RETAIN hours : INT; END_VAR IF run THEN speed := 50; hours := hours + 1; ELSE speed := 0; END_IF; END_PROGRAM",
		Globals: []api.Global{{Name: "run", Kind: api.Bool, Dir: api.FromField}, {Name: "stop", Kind: api.Bool, Dir: api.FromField}, {Name: "speed", Kind: api.Int, Dir: api.ToField}},
		Tasks:   []api.Task{{Name: "p", Period: 2000, Deadline: 2000}},
		Field:   []api.Station{{Number: 4, Watch: 3, Tells: list("run", "stop"), Safe: list(0, 1), Takes: list("speed")}},
		Guard:   api.Guard{Sensors: 1, Votes: []api.Vote{{Need: 1, Of: list(0)}}},
		Sensors: list("stop"),
		Step:    1000,
	}
}

// largeText: a function, a block and two programs, which keep words of all kinds and count faults.
const largeText = `
FUNCTION half : INT VAR_INPUT x : INT; END_VAR VAR two : INT := 2; END_VAR half := x / two; END_FUNCTION
FUNCTION_BLOCK gate VAR_INPUT in : BOOL; END_VAR VAR_OUTPUT n : DINT; END_VAR VAR RETAIN total : DINT := 5; END_VAR VAR c : ctu; END_VAR
  c(cu := in, pv := 3); total := total + int_to_dint(c.cv); n := total;
END_FUNCTION_BLOCK
PROGRAM main
VAR_EXTERNAL go : BOOL; level : INT; flow : DINT; speed : INT; rate : DINT; sum : DINT; goal : INT; END_VAR
VAR RETAIN runs : INT := 100; last : ARRAY[1..3] OF DINT := -1; open : BOOL; kept : gate; END_VAR
VAR g : gate; i : INT := 1; END_VAR
  runs := runs + 1; g(in := go); kept(in := NOT go);
  last[i] := flow + kept.n; i := i + 1;
  IF i > 4 THEN i := 0; END_IF;
  open := go AND level > goal;
  speed := half(level) + goal; rate := flow - g.n; sum := sum + int_to_dint(level);
END_PROGRAM
PROGRAM side
VAR_EXTERNAL sum : DINT; level : INT; seen : TIME; END_VAR
VAR RETAIN long : TIME := T#1s; bits : WORD := 16#F0F0; END_VAR
VAR t : ton; x : INT; END_VAR
  t(in := level > 0, pt := T#5ms); seen := t.et; bits := rol(bits, 1); long := long + T#1ms; x := 7 / (level - level);
END_PROGRAM`

const largeLadder = "LADDER lamps VAR_EXTERNAL go, door, lamp : BOOL; END_VAR VAR RETAIN was : BOOL; END_VAR RUNG [go] [/door] => lamp; RUNG [>lamp] => +was; END_LADDER"

const largeDiagram = "DIAGRAM masks VAR_EXTERNAL mask, out : WORD; wait, delay : TIME; END_VAR VAR before : WORD; END_VAR out := NOT mask XOR before; PREV before := mask; delay := wait + T#1ms; END_DIAGRAM"

func global(name string, kind api.Kind, dir api.Dir) api.Global {
	return api.Global{Name: name, Kind: kind, Dir: dir}
}

// large: a plan of many kinds: units of text, a ladder and a diagram; globals of all kinds and directions; stations that tell or take nothing; two votes. Its tasks stand in another order than their Deadlines, its programs in another one than its tasks.
func large() api.Plan {
	return api.Plan{
		Text: largeText, Ladders: list(largeLadder), Diagrams: list(largeDiagram),
		Globals: []api.Global{
			global("sum", api.Dint, api.Memory), global("go", api.Bool, api.FromField), global("level", api.Int, api.FromField), global("flow", api.Dint, api.FromField),
			global("mask", api.Word, api.FromField), global("wait", api.Time, api.FromField), global("stop", api.Bool, api.FromField), global("door", api.Bool, api.FromField),
			global("speed", api.Int, api.ToField), global("rate", api.Dint, api.ToField), global("lamp", api.Bool, api.ToField), global("out", api.Word, api.ToField), global("delay", api.Time, api.ToField),
			global("goal", api.Int, api.Setting), global("seen", api.Time, api.Memory), global("alone", api.Bool, api.FromField),
		},
		Tasks: []api.Task{
			{Name: "masks", Period: 4000, Offset: 2000, Deadline: 4000}, {Name: "main", Period: 2000, Deadline: 1900},
			{Name: "lamps", Period: 1000, Deadline: 900}, {Name: "side", Period: 3000, Offset: 1000, Deadline: 1900},
		},
		Field: []api.Station{
			{Number: 4, Watch: 3, Tells: list("go", "level", "flow"), Safe: list(0, -2, -70000), Takes: list("rate", "speed")},
			{Number: 7, Watch: 1, Tells: list("mask", "wait", "stop"), Safe: list(65535, 4294967295, 1)},
			{Number: 0, Watch: 2, Tells: list("door"), Safe: list(1), Takes: list("lamp", "delay", "out")},
			{Number: 247, Watch: 1000},
		},
		Guard:   api.Guard{Sensors: 3, Delay: 1, Votes: []api.Vote{{Need: 2, Of: list(0, 1)}, {Need: 1, Of: list(2)}}},
		Sensors: list("stop", "door", "go"),
		Step:    100,
	}
}

// with: a plan, or a state, of which something is other than it was.
func with[T any](x T, alter func(*T)) T {
	x = twin(x)
	alter(&x)
	return x
}

// twin: the same, of other memory.
func twin[T any](x T) T {
	return roomy(x, 0)
}

// roomy: the same, of other memory, each list with so much room behind it, which is not nothing.
func roomy[T any](x T, room int) T {
	v := reflect.ValueOf(&x).Elem()
	v.Set(moved(v, room))
	return x
}

func moved(v reflect.Value, room int) reflect.Value {
	out := reflect.New(v.Type()).Elem()
	out.Set(v)
	switch v.Kind() {
	case reflect.Slice:
		l := reflect.MakeSlice(v.Type(), v.Len()+room, v.Len()+room)
		for i := range v.Len() {
			l.Index(i).Set(moved(v.Index(i), room))
		}
		for i := range room {
			fill(l.Index(v.Len() + i))
		}
		out.Set(l.Slice(0, v.Len()))
	case reflect.Struct:
		for i := range v.NumField() {
			out.Field(i).Set(moved(v.Field(i), room))
		}
	}
	return out
}

// fill writes over a value, and over all of its lists.
func fill(v reflect.Value) {
	switch v.Kind() {
	case reflect.Slice:
		l := v.Slice(0, v.Cap())
		for i := range l.Len() {
			fill(l.Index(i))
		}
	case reflect.Struct:
		for i := range v.NumField() {
			fill(v.Field(i))
		}
	case reflect.String:
		v.SetString("spoilt")
	case reflect.Bool:
		v.SetBool(!v.Bool())
	case reflect.Uint8:
		v.SetUint(77)
	case reflect.Int:
		v.SetInt(77)
	}
}

// spoil writes over all lists of something, their spare room too.
func spoil[T any](x T) {
	fill(reflect.ValueOf(&x).Elem())
}

// whole: all that there is, the spare room of lists too, as a text.
func whole[T any](x T) string {
	var s strings.Builder
	var put func(v reflect.Value)
	put = func(v reflect.Value) {
		switch v.Kind() {
		case reflect.Slice:
			fmt.Fprint(&s, "[", v.Len(), ": ")
			l := v.Slice(0, v.Cap())
			for i := range l.Len() {
				put(l.Index(i))
			}
			fmt.Fprint(&s, "]")
		case reflect.Struct:
			for i := range v.NumField() {
				put(v.Field(i))
			}
		default:
			fmt.Fprintf(&s, "%#v ", v.Interface())
		}
	}
	put(reflect.ValueOf(&x).Elem())
	return s.String()
}

// text: what there is; a list without elements is the same if it is nil.
func text(x ...any) string {
	return fmt.Sprintf("%+v", x)
}

// alike: is both the same? Else it is told.
func alike(t *testing.T, what string, got, want any) {
	t.Helper()
	if text(got) != text(want) {
		t.Fatalf("%s: %s, not %s", what, brief(got), brief(want))
	}
}

// brief: something as a text, cut where it is very long.
func brief(x any) string {
	s := text(x)
	if len(s) > 2000 {
		s = s[:2000] + " .."
	}
	return s
}

// begun: the plant at first.
func begun(t *testing.T, p api.Plan) api.State {
	t.Helper()
	s, e := plant.Begin(p)
	if e != api.OK {
		t.Fatalf("Begin: %v", e)
	}
	return s
}

// ticked: what comes of a tick that must be right.
func ticked(t *testing.T, p api.Plan, s api.State, key bool, came ...[]byte) api.Ticked {
	t.Helper()
	x := plant.Tick(p, s, came, key)
	if x.Code != api.OK {
		t.Fatalf("Tick of %s: %v", brief(s), x.Code)
	}
	return x
}

// frame: one that is right.
func frame(station, seq int, words ...int) []byte {
	b, e := bus.Frame(station, seq, words)
	if e != api.OK {
		panic(fmt.Sprint(station, seq, words))
	}
	return b
}

// opened: what frames tell: stations, sequence numbers and words.
func opened(frames [][]byte) string {
	var l []string
	for _, b := range frames {
		station, seq, words, e := bus.Open(b)
		l = append(l, fmt.Sprint(station, seq, words))
		if e != api.OK {
			l = append(l, fmt.Sprint(b, e))
		}
	}
	return strings.Join(l, " ")
}

// value: what a global has.
func value(p api.Plan, s api.State, name string) int {
	return s.Values[slices.IndexFunc(p.Globals, func(g api.Global) bool { return g.Name == name })]
}

// variable: the words of a program's variable.
func variable(t *testing.T, p api.Plan, s api.State, program, path string) []int {
	t.Helper()
	b, f := plant.Build(p)
	if f.Code != api.OK {
		t.Fatal(f)
	}
	for i, proc := range b.Code.Procs {
		for _, slot := range proc.Slots {
			if proc.Name == program && slot.Path == path {
				return s.Frames[i][slot.At : slot.At+max(slot.Len, 1)]
			}
		}
	}
	t.Fatalf("no %s of %s", path, program)
	return nil
}

// refused: does Build tell this fault, and nothing else, and do all other calls refuse the plan, whatever else they are given?
func refused(t *testing.T, p api.Plan, code api.Errno, unit, at int) {
	t.Helper()
	b, f := plant.Build(p)
	if want := (api.Fault{Code: code, Unit: unit, At: at}); f != want || text(b) != text(api.Built{}) {
		t.Fatalf("Build(%s): %s, %v, not %v", brief(p), brief(b), f, want)
	}
	other := small()
	state, _ := plant.Begin(other)
	for _, s := range []api.State{{}, state, {Now: api.MaxNow}} {
		got, e := plant.Begin(p)
		none(t, "Begin", got, e, api.ErrPlan)
		x := plant.Tick(p, s, nil, true)
		none(t, "Tick", x.State, x.Code, api.ErrPlan)
		none(t, "Tick", x.Frames, x.Code, api.ErrPlan)
		words, e := plant.Save(p, s)
		none(t, "Save", words, e, api.ErrPlan)
		got, e = plant.Restore(p, s, list(-1))
		none(t, "Restore", got, e, api.ErrPlan)
		got, e = plant.Replace(p, s, other)
		none(t, "Replace of it", got, e, api.ErrPlan)
		got, e = plant.Replace(other, s, p)
		none(t, "Replace by it", got, e, api.ErrPlan)
		got, e = plant.Replace(p, s, p)
		none(t, "Replace of it by it", got, e, api.ErrPlan)
	}
}

// none: is nothing told but an error?
func none[T any](t *testing.T, what string, got T, e, want api.Errno) {
	t.Helper()
	var zero T
	if e != want || text(got) != text(zero) {
		t.Fatalf("%s: %s, %v, not %v", what, brief(got), e, want)
	}
}

// taken: is there no fault of the plan?
func taken(t *testing.T, p api.Plan) api.Built {
	t.Helper()
	b, f := plant.Build(p)
	if f != (api.Fault{}) {
		t.Fatalf("Build(%s): %v", brief(p), f)
	}
	return b
}
