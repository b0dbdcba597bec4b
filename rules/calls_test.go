package rules

import (
	"go/ast"
	"math"
	"reflect"
	"slices"
	"testing"

	"conjoin/api"
)

// This file calls all functions of a package with all sorts of arguments, for what the document's rules R1 to R4 say of each of them.

// face is the functions of a package, and what they are called with.
type face struct {
	name  string
	calls map[string]any
	// some are arguments of a type, ordinary ones and any others, new ones in each call.
	some func(of reflect.Type) []any
	// first is the error that has to come before all others with these arguments, OK if there is none.
	first func(args []reflect.Value) api.Errno
	// kept are the functions that return something beside an error.
	kept []string
}

// anyInts are numbers in and out of all bounds.
func anyInts() []any { return []any{0, 1, 2, 59, -1, 1000000, math.MaxInt, math.MinInt} }

// roomy has room behind its end, in which a function that appends to an argument would write.
func roomy[T any](list ...T) []T {
	return append(make([]T, 0, len(list)+4), list...)
}

// eachCall calls f with all arguments of a function that there are.
func (p face) eachCall(fn reflect.Value, f func(args []reflect.Value)) {
	var more func(args []reflect.Value)
	more = func(args []reflect.Value) {
		if len(args) == fn.Type().NumIn() {
			f(args)
			return
		}
		for _, x := range p.some(fn.Type().In(len(args))) {
			more(append(args[:len(args):len(args)], reflect.ValueOf(x)))
		}
	}
	more(nil)
}

// lists are the slices in a value, with what is behind their ends.
func lists(v reflect.Value) []reflect.Value {
	var l []reflect.Value
	switch v.Kind() {
	case reflect.Slice:
		if v.Cap() > 0 {
			l = append(l, v.Slice(0, v.Cap()))
		}
		if inner := v.Type().Elem().Kind(); inner == reflect.Struct || inner == reflect.Slice {
			for i := range v.Len() {
				l = append(l, lists(v.Index(i))...)
			}
		}
	case reflect.Struct:
		for i := range v.NumField() {
			l = append(l, lists(v.Field(i))...)
		}
	}
	return l
}

// copies are copies of all slices in some values.
func copies(values []reflect.Value) []any {
	var l []any
	for _, v := range values {
		for _, s := range lists(v) {
			c := reflect.MakeSlice(s.Type(), s.Len(), s.Len())
			reflect.Copy(c, s)
			l = append(l, c.Interface())
		}
	}
	return l
}

// rebuilt is a copy of a value in which all empty slices are like one: nil, or not.
func rebuilt(v reflect.Value, isNil bool) reflect.Value {
	c := reflect.New(v.Type()).Elem()
	switch v.Kind() {
	case reflect.Slice:
		if !isNil {
			c = reflect.MakeSlice(v.Type(), 0, v.Len())
		}
		for i := range v.Len() {
			c = reflect.Append(c, rebuilt(v.Index(i), isNil))
		}
	case reflect.Struct:
		for i := range v.NumField() {
			c.Field(i).Set(rebuilt(v.Field(i), isNil))
		}
	default:
		c.Set(v)
	}
	return c
}

// plain is a copy of a value in which empty slices are nil, since R3 does not tell them apart.
func plain(v reflect.Value) reflect.Value { return rebuilt(v, true) }

func plainAll(values []reflect.Value) []any {
	var l []any
	for _, v := range values {
		l = append(l, plain(v).Interface())
	}
	return l
}

// wipe writes into all memory that some values lead to.
func wipe(values []reflect.Value) {
	for _, v := range values {
		l := lists(v)
		slices.Reverse(l)
		for _, s := range l {
			for i := range s.Len() {
				s.Index(i).SetZero()
			}
		}
	}
}

// isAlone says whether an error, or a false, stands beside zero values alone.
func isAlone(results []reflect.Value) bool {
	bare := false
	for _, v := range results {
		switch x := v.Interface().(type) {
		case api.Errno:
			bare = bare || x != api.OK
		case api.Fault:
			bare = bare || x.Err != api.OK
		case bool:
			bare = bare || !x
		}
	}
	for _, v := range results {
		if bare && !isErrorValue(v) && !plain(v).IsZero() {
			return false
		}
	}
	return true
}

func isErrorValue(v reflect.Value) bool {
	switch v.Interface().(type) {
	case api.Errno, api.Fault:
		return true
	}
	return false
}

// areApart says whether no two lists of some results share memory.
func areApart(results []reflect.Value) bool {
	seen := map[uintptr]bool{}
	for _, v := range results {
		for _, s := range lists(v) {
			if s.Type().Elem().Size() == 0 {
				continue
			}
			if seen[s.Pointer()] {
				return false
			}
			seen[s.Pointer()] = true
		}
	}
	return true
}

func (p face) checkCall(t *testing.T, name string, fn reflect.Value, args []reflect.Value) {
	before := copies(args)
	results := fn.Call(args)
	if first := p.first(args); first != api.OK {
		if e, ok := results[len(results)-1].Interface().(api.Errno); ok && e != first {
			t.Fatalf("%s(%v): error %d, but the first one is %d", name, args, e, first)
		}
	}
	if !slices.Contains(p.kept, name) && !isAlone(results) {
		t.Fatalf("%s(%v): something beside an error or a false: %v", name, args, results)
	}
	if !areApart(results) {
		t.Fatalf("%s(%v): results that share memory", name, args)
	}
	want := plainAll(results)
	wipe(results)
	if !reflect.DeepEqual(copies(args), before) {
		t.Fatalf("%s(%v): an argument is changed, or shared", name, args)
	}
	if got := plainAll(fn.Call(args)); !reflect.DeepEqual(got, want) {
		t.Fatalf("%s(%v): %v, then %v", name, args, want, got)
	}
	other := slices.Clone(args)
	for i, v := range args {
		other[i] = rebuilt(v, false)
	}
	if got := plainAll(fn.Call(other)); !reflect.DeepEqual(got, want) {
		t.Fatalf("%s(%v): %v, with empty lists for nil ones %v", name, args, want, got)
	}
}

// TestCalls is R1 to R4: no call panics, what has to be checked first comes first, an error stands alone, arguments stay as they are and share no memory with results, nil and empty lists are alike, and a call that is made again returns the same.
func TestCalls(t *testing.T) {
	for _, p := range faces() {
		t.Run(p.name, func(t *testing.T) {
			for name, f := range p.calls {
				fn := reflect.ValueOf(f)
				p.eachCall(fn, func(args []reflect.Value) { p.checkCall(t, name, fn, args) })
			}
		})
	}
}

// TestFaces looks for functions of the packages that TestCalls leaves out.
func TestFaces(t *testing.T) {
	all := sources(t)
	for _, p := range faces() {
		for _, s := range all {
			if s.tree.Name.Name != p.name {
				continue
			}
			for _, d := range s.tree.Decls {
				f, ok := d.(*ast.FuncDecl)
				if ok && f.Recv == nil && f.Name.IsExported() && p.calls[f.Name.Name] == nil {
					t.Errorf("nothing calls %s.%s", p.name, f.Name.Name)
				}
			}
		}
	}
}
