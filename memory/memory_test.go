// Package memory tests R2 and R3 of the document for all layers: arguments are not modified, results share no memory with arguments or with each other, and equal calls return equal results.
package memory

import (
	"reflect"
	"slices"
	"testing"
)

// guard is the number of elements that lie before and behind the elements of each argument.
const guard = 3

// check calls the function f with the arguments, in memory whose surroundings are watched.
func check(t *testing.T, name string, f any, args ...any) {
	t.Helper()
	inside, whole := guarded(args)
	before := copies(whole)
	results := call(f, inside)
	if !reflect.DeepEqual(copies(whole), before) {
		t.Errorf("%s%v modifies an argument", name, args)
	}
	checkApart(t, name, whole, results)
	again, _ := guarded(args)
	first, second := copies(results), copies(call(f, again))
	if !reflect.DeepEqual(first, second) {
		t.Errorf("%s%v returns %v at first and then %v", name, args, first, second)
	}
}

// checkApart reports an error if a list of the results, up to its capacity, overlaps an argument or another list of the results.
func checkApart(t *testing.T, name string, whole, results []reflect.Value) {
	t.Helper()
	others := slices.Clone(whole)
	for _, r := range results {
		for _, list := range listsIn(r) {
			for i, other := range others {
				if overlap(list, other) {
					t.Errorf("%s returns memory of an argument (%v) or memory twice (%v)", name, i < len(whole), i >= len(whole))
				}
			}
			others = append(others, list)
		}
	}
}

// overlap says whether two lists, up to their capacities, have memory in common.
func overlap(a, b reflect.Value) bool {
	startA, endA := span(a)
	startB, endB := span(b)
	return max(startA, startB) < min(endA, endB)
}

// span is the range of addresses of a list up to its capacity.
func span(list reflect.Value) (start, end uintptr) {
	start = list.Pointer()
	return start, start + uintptr(list.Cap())*list.Type().Elem().Size()
}

func call(f any, args []reflect.Value) []reflect.Value {
	if reflect.TypeOf(f).IsVariadic() {
		return reflect.ValueOf(f).CallSlice(args)
	}
	return reflect.ValueOf(f).Call(args)
}

// guarded copies arguments, each list into the middle of a longer one, and returns the longer ones too.
func guarded(args []any) (inside, whole []reflect.Value) {
	for _, a := range args {
		v := reflect.New(reflect.TypeOf(a)).Elem()
		v.Set(copied(reflect.ValueOf(a), &whole))
		inside = append(inside, v)
	}
	return inside, whole
}

// copies are deep copies in which empty lists are nil.
func copies(values []reflect.Value) []any {
	out := make([]any, len(values))
	for i, v := range values {
		out[i] = copied(v, nil).Interface()
	}
	return out
}

// copied is a deep copy. If whole is not nil, lists lie in longer ones, which are added to whole; otherwise empty lists become nil.
func copied(v reflect.Value, whole *[]reflect.Value) reflect.Value {
	out := reflect.New(v.Type()).Elem()
	switch v.Kind() {
	case reflect.Slice:
		if v.Len() == 0 && (whole == nil || v.IsNil()) {
			return out
		}
		out = room(v, whole)
		for i := range v.Len() {
			out.Index(i).Set(copied(v.Index(i), whole))
		}
	case reflect.Array:
		for i := range v.Len() {
			out.Index(i).Set(copied(v.Index(i), whole))
		}
	case reflect.Struct:
		for i := range v.NumField() {
			out.Field(i).Set(copied(v.Field(i), whole))
		}
	default:
		out.Set(v)
	}
	return out
}

// room is a new list with the type and the length of v.
func room(v reflect.Value, whole *[]reflect.Value) reflect.Value {
	if whole == nil {
		return reflect.MakeSlice(v.Type(), v.Len(), v.Len())
	}
	all := reflect.MakeSlice(v.Type(), v.Len()+2*guard, v.Len()+2*guard)
	for i := range all.Len() {
		overwrite(all.Index(i))
	}
	*whole = append(*whole, all)
	return all.Slice(guard, guard+v.Len())
}

// listsIn are the lists in a value, and those in them.
func listsIn(v reflect.Value) []reflect.Value {
	var lists []reflect.Value
	switch v.Kind() {
	case reflect.Slice:
		lists = append(lists, v)
		for i := range v.Len() {
			lists = append(lists, listsIn(v.Index(i))...)
		}
	case reflect.Array:
		for i := range v.Len() {
			lists = append(lists, listsIn(v.Index(i))...)
		}
	case reflect.Struct:
		for i := range v.NumField() {
			lists = append(lists, listsIn(v.Field(i))...)
		}
	}
	return lists
}

// overwrite gives a value other contents, so that a copy of it over its neighbour is seen.
func overwrite(v reflect.Value) {
	switch v.Kind() {
	case reflect.Bool:
		v.SetBool(!v.Bool())
	case reflect.Int, reflect.Int64, reflect.Int32, reflect.Int16, reflect.Int8:
		v.SetInt(^v.Int())
	case reflect.Uint, reflect.Uint64, reflect.Uint32, reflect.Uint16, reflect.Uint8:
		v.SetUint(v.Uint() ^ 0x5A)
	case reflect.String:
		v.SetString(v.String() + "x")
	case reflect.Slice:
		v.Set(reflect.MakeSlice(v.Type(), v.Len()+1, v.Len()+1))
	case reflect.Array:
		for i := range v.Len() {
			overwrite(v.Index(i))
		}
	case reflect.Struct:
		for i := range v.NumField() {
			overwrite(v.Field(i))
		}
	}
}
