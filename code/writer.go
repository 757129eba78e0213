package code

import "plantwright/api"

// writer puts down a unit's instructions. Jumps whose ends are not known yet are remembered by their places.
type writer struct {
	*layout
	text    []api.Instr
	loops   []*loop
	returns []int
}

// loop is one that stands around what is being written.
type loop struct {
	counter int
	body    int
	exits   []int
	nexts   []int
}

func (f *layout) write(u api.Unit) []api.Instr {
	w := &writer{layout: f}
	if u.Kind == api.Function {
		w.begin()
	}
	w.list(u.Body)
	w.here(w.returns...)
	return w.text
}

// begin: a function's result and its own variables are as at first, each time.
func (w *writer) begin() {
	for _, v := range w.vars {
		if v.Role == api.Own {
			w.put(api.Fill, w.at[v.Name], w.words(v), v.Init.N)
		}
	}
}

// put puts down an instruction with the fields that it uses, and tells its place.
func (w *writer) put(do api.Do, fields ...int) int {
	var abc [3]int
	copy(abc[:], fields)
	w.text = append(w.text, api.Instr{Do: do, A: abc[0], B: abc[1], C: abc[2]})
	return len(w.text) - 1
}

// here: these jumps go to what is put down next.
func (w *writer) here(jumps ...int) {
	for _, j := range jumps {
		w.text[j].A = len(w.text)
	}
}

func (w *writer) work(op api.Op, k api.Kind) {
	w.put(api.Work, int(op), int(k))
}

// element: the word comes from an array, or goes there, at the index on the stack.
func (w *writer) element(do api.Do, name string) {
	v := w.named[name]
	w.put(do, w.at[name], v.Len, v.Low)
}

// instance: where it lies, and what it is cast from.
func (w *writer) instance(name string) (int, mould) {
	return w.at[name], w.moulds[w.named[name].Of]
}
