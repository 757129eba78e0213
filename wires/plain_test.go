package wires_test

import (
	"reflect"

	"plantwright/api"
)

// plain: the unit with all its empty lists nil.
func plain(u api.Unit) api.Unit {
	v := reflect.New(reflect.TypeOf(u)).Elem()
	copied(v, reflect.ValueOf(u))
	return v.Interface().(api.Unit)
}

// copied puts a copy of a value into another one, its empty lists nil.
func copied(to, from reflect.Value) {
	switch from.Kind() {
	case reflect.Struct:
		for i := range from.NumField() {
			copied(to.Field(i), from.Field(i))
		}
	case reflect.Slice:
		if from.Len() > 0 {
			to.Set(reflect.MakeSlice(from.Type(), from.Len(), from.Len()))
		}
		for i := range from.Len() {
			copied(to.Index(i), from.Index(i))
		}
	default:
		to.Set(from)
	}
}

// noPlaces: statements, of which each part stands at 0.
func noPlaces(l []api.Stmt) []api.Stmt {
	u := plain(api.Unit{Body: l})
	unplace(reflect.ValueOf(&u).Elem())
	return u.Body
}

func unplace(v reflect.Value) {
	switch v.Kind() {
	case reflect.Struct:
		for i := range v.NumField() {
			if v.Type().Field(i).Name == "At" {
				v.Field(i).SetInt(0)
			}
			unplace(v.Field(i))
		}
	case reflect.Slice:
		for i := range v.Len() {
			unplace(v.Index(i))
		}
	}
}
