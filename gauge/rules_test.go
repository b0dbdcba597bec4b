package gauge_test

import (
	"math"
	"reflect"
	"testing"

	"conjoin/api"
	"conjoin/gauge"
)

// calls are all functions of the package, to be called with all sorts of arguments.
func calls() map[string]any {
	return map[string]any{
		"CheckSystem": gauge.CheckSystem, "Keeps": gauge.Keeps, "Breaks": gauge.Breaks, "With": gauge.With,
		"Without": gauge.Without, "Only": gauge.Only, "Ids": gauge.Ids, "Beside": gauge.Beside, "Tie": gauge.Tie,
		"Solve": gauge.Solve, "Circle": gauge.Circle, "CheckCircle": gauge.CheckCircle, "Greatest": gauge.Greatest,
		"Least": gauge.Least, "Path": gauge.Path, "CheckPath": gauge.CheckPath, "Attain": gauge.Attain,
		"Fixed": gauge.Fixed, "Rigid": gauge.Rigid, "Rests": gauge.Rests, "Doubt": gauge.Doubt, "Changed": gauge.Changed,
	}
}

// roomy has room behind its end, in which a function that appends to an argument would write.
func roomy[T any](list []T) []T {
	return append(make([]T, 0, len(list)+4), list...)
}

// some are arguments of a type, ordinary ones and any others, new ones in each call.
func some(of reflect.Type) []any {
	switch reflect.Zero(of).Interface().(type) {
	case int:
		return []any{0, 1, 2, 59, -1, 1000000, math.MaxInt, math.MinInt}
	case bool:
		return []any{false, true}
	case []int:
		return []any{[]int(nil), []int{}, roomy([]int{0, 2}), roomy([]int{0, 3, 7}), roomy([]int{7, 9, 0, 7}), roomy([]int{math.MinInt, math.MaxInt, -1})}
	case api.Bound:
		return []any{bound(0, 1, 3, 6), bound(1, 0, -6, 5), bound(1, 1, 0, 0), bound(math.MinInt, math.MaxInt, math.MinInt, math.MaxInt)}
	}
	var l []any
	for _, s := range []api.System{
		three(), bad(), full(), system(1), {Points: 2, Bounds: []api.Bound{}}, system(60), system(61), system(0),
		system(math.MinInt), system(math.MaxInt), system(2, bound(math.MinInt, math.MaxInt, math.MinInt, math.MaxInt)),
		system(math.MaxInt, bound(-1, 1<<40, 0, 0)), system(2, make([]api.Bound, 401)...),
	} {
		if s.Bounds != nil {
			s.Bounds = roomy(s.Bounds)
		}
		l = append(l, s)
	}
	return l
}

// eachCall calls f with all arguments of a function that there are.
func eachCall(fn reflect.Value, f func(args []reflect.Value)) {
	var more func(args []reflect.Value)
	more = func(args []reflect.Value) {
		if len(args) == fn.Type().NumIn() {
			f(args)
			return
		}
		for _, x := range some(fn.Type().In(len(args))) {
			more(append(args[:len(args):len(args)], reflect.ValueOf(x)))
		}
	}
	more(nil)
}

// lists are the slices in a value, with what is behind their ends.
func lists(v reflect.Value) []reflect.Value {
	switch v.Kind() {
	case reflect.Slice:
		return []reflect.Value{v.Slice(0, v.Cap())}
	case reflect.Struct:
		var l []reflect.Value
		for i := range v.NumField() {
			l = append(l, lists(v.Field(i))...)
		}
		return l
	}
	return nil
}

// copies are copies of all slices in some values.
func copies(values []reflect.Value) []any {
	var l []any
	for _, v := range values {
		for _, s := range lists(v) {
			c := reflect.MakeSlice(s.Type(), s.Len(), s.Len())
			reflect.Copy(c, s)
			l = append(l, c.Interface())
		}
	}
	return l
}

// plain are results without what R3 does not tell apart: nil and empty slices.
func plain(values []reflect.Value) []any {
	var l []any
	for _, v := range values {
		switch x := v.Interface().(type) {
		case []int:
			l = append(l, append([]int{}, x...))
		case api.System:
			l = append(l, x.Points, append([]api.Bound{}, x.Bounds...))
		default:
			l = append(l, x)
		}
	}
	return l
}

// nothing says whether a result is a zero value.
func nothing(v reflect.Value) bool {
	if s, ok := v.Interface().(api.System); ok {
		return s.Points == 0 && len(s.Bounds) == 0
	}
	return v.Kind() == reflect.Slice && v.Len() == 0 || v.IsZero()
}

// TestRules is R1 to R4: no call panics, the error of the first system comes first, an error stands alone, arguments stay as they are and share no memory with results, and a call that is made again returns the same.
func TestRules(t *testing.T) {
	for name, f := range calls() {
		fn := reflect.ValueOf(f)
		eachCall(fn, func(args []reflect.Value) {
			before := copies(args)
			results := fn.Call(args)
			last := len(results) - 1
			e := results[last].Interface().(api.Errno)
			failed := e != api.OK
			if first := gauge.CheckSystem(args[0].Interface().(api.System)); first != api.OK && e != first {
				t.Fatalf("%s(%v): error %d, but the system's is %d", name, args, e, first)
			}
			absent := last == 2 && !results[1].Bool()
			for i, v := range results[:last] {
				if (failed || absent && i == 0) && !nothing(v) {
					t.Fatalf("%s(%v): %v beside an error or a false", name, args, v)
				}
			}
			want := plain(results)
			for _, v := range results {
				for _, s := range lists(v) {
					for i := range s.Len() {
						s.Index(i).SetZero()
					}
				}
			}
			if !reflect.DeepEqual(copies(args), before) {
				t.Fatalf("%s(%v): an argument is changed, or shared", name, args)
			}
			if got := plain(fn.Call(args)); !reflect.DeepEqual(got, want) {
				t.Fatalf("%s(%v): %v, then %v", name, args, want, got)
			}
		})
	}
}

// TestEmptyLists is R3: a nil slice and an empty one are equivalent.
func TestEmptyLists(t *testing.T) {
	full, empty := api.System{Points: 2, Bounds: []api.Bound{}}, api.System{Points: 2}
	for name, f := range calls() {
		fn := reflect.ValueOf(f)
		eachCall(fn, func(args []reflect.Value) {
			other := append([]reflect.Value{}, args...)
			for i, v := range args {
				switch x := v.Interface().(type) {
				case []int:
					if x == nil {
						other[i] = reflect.ValueOf([]int{})
					}
				case api.System:
					if reflect.DeepEqual(x, full) {
						other[i] = reflect.ValueOf(empty)
					}
				}
			}
			if got, want := plain(fn.Call(other)), plain(fn.Call(args)); !reflect.DeepEqual(got, want) {
				t.Fatalf("%s(%v): %v, with empty lists %v", name, args, want, got)
			}
		})
	}
}
