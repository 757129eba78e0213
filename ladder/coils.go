package ladder

import (
	"plantwright/api"
	"plantwright/tokens"
)

// coils: those of a rung, up to its end.
func (d *drawer) coils() {
	count := 0
	for more := true; more; more = d.Need(",", ";").Text == "," {
		d.needCoil(count)
		d.coil()
		count++
	}
}

// needCoil: a coil has to begin here, and to have room behind so many others.
func (d *drawer) needCoil(others int) {
	if !d.IsClass(tokens.Name) && !d.Is("/", "+", "-", ">") {
		d.GiveUp(api.ErrText, d.Now.At)
	}
	if others == api.MaxCoils {
		d.GiveUp(api.ErrSize, d.Now.At)
	}
}

func (d *drawer) coil() {
	at := d.Now.At
	sign := d.sign("/", "+", "-", ">")
	instance := ""
	if sign == ">" {
		instance = d.hide(api.Var{Of: rising}, at)
	}
	name := d.NeedName()
	on := powered(at)
	switch sign {
	case "/":
		d.put(set(name, not(on), at))
	case "+":
		d.put(when(on, set(name, truth(1, at), at)))
	case "-":
		d.put(when(on, set(name, truth(0, at), at)))
	case ">":
		d.put(pulse(instance, on), set(name, pulsed(instance, at), at))
	default:
		d.plain(name, at)
	}
}

// plain: a coil without a sign, behind its name.
func (d *drawer) plain(name string, at int) {
	if !d.Took("(") {
		d.put(set(name, powered(at), at))
		return
	}
	input := d.NeedClass(tokens.Name)
	args := []api.Arg{{Name: input.Text, E: powered(at), At: input.At}}
	for d.Need(",", ")").Text == "," {
		args = append(args, d.NeedArg(len(args), d.Expression))
	}
	d.put(api.Stmt{Verb: api.Invoke, At: at, Name: name, Args: args})
}
