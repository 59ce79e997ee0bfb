package machine

import (
	"encoding/binary"
	"hash/fnv"
	"math"
	"reflect"
	"strings"
	"testing"

	"vmfleet/api"
)

// appendValue appends the encoding of a value: the order of the fields in package api is that of chapter 12.
func appendValue(code []byte, v reflect.Value) []byte {
	switch v.Kind() {
	case reflect.Struct:
		for i := range v.NumField() {
			code = appendValue(code, v.Field(i))
		}
	case reflect.Slice, reflect.Array:
		if v.Kind() == reflect.Slice {
			code = binary.AppendUvarint(code, uint64(v.Len()))
		}
		for i := range v.Len() {
			code = appendValue(code, v.Index(i))
		}
	case reflect.String:
		code = append(binary.AppendUvarint(code, uint64(v.Len())), v.String()...)
	case reflect.Bool:
		if v.Bool() {
			return append(code, 1)
		}
		return append(code, 0)
	case reflect.Int:
		return binary.AppendUvarint(code, uint64(v.Int()))
	default:
		return binary.AppendUvarint(code, v.Uint())
	}
	return code
}

// encoded returns the encoding of a machine without the help of Encode.
func encoded(m api.Machine) string {
	return string(appendValue(nil, reflect.ValueOf(m)))
}

// scalars returns all numbers, strings and bools of an addressable value.
func scalars(v reflect.Value) []reflect.Value {
	switch v.Kind() {
	case reflect.Struct:
		var list []reflect.Value
		for i := range v.NumField() {
			list = append(list, scalars(v.Field(i))...)
		}
		return list
	case reflect.Slice, reflect.Array:
		var list []reflect.Value
		for i := range v.Len() {
			list = append(list, scalars(v.Index(i))...)
		}
		return list
	}
	return []reflect.Value{v}
}

// others returns values of the type of v that are different from its value and from each other.
func others(v reflect.Value) []reflect.Value {
	var list []any
	switch v.Kind() {
	case reflect.String:
		for _, s := range []string{"", "\x00", "a", "a\x00", "ab", strings.Repeat("k", 127), strings.Repeat("k", 128), strings.Repeat("\xff", 300)} {
			list = append(list, s)
		}
	case reflect.Bool:
		list = []any{true, false}
	case reflect.Int:
		list = []any{math.MinInt, -1 << 32, -2, -1, 0, 1, 2, 3, 4, 127, 128, 1 << 32, math.MaxInt}
	case reflect.Uint32:
		list = []any{uint32(0), uint32(1), uint32(2), uint32(127), uint32(128), uint32(256), uint32(16383), uint32(16384), uint32(1 << 31), uint32(math.MaxUint32)}
	case reflect.Uint64:
		list = []any{uint64(0), uint64(1), uint64(127), uint64(128), uint64(1 << 32), uint64(1 << 60), uint64(1 << 63), uint64(math.MaxUint64)}
	}
	var values []reflect.Value
	for _, x := range list {
		if x := reflect.ValueOf(x); !x.Equal(v) {
			values = append(values, x)
		}
	}
	return values
}

// checkCode checks Encode, Hash and Same of a machine by itself.
func checkCode(t *testing.T, m api.Machine) {
	t.Helper()
	before := duplicate(m)
	want := encoded(m)
	if got := Encode(m); got != want {
		t.Fatalf("%v:\n got %x\nwant %x", m, got, want)
	}
	h := fnv.New64a()
	h.Write([]byte(want))
	if got := Hash(m); got != h.Sum64() {
		t.Fatalf("%v: Hash %x, want %x", m, got, h.Sum64())
	}
	if !Same(m, m) || !Same(m, before) || !Same(before, m) {
		t.Fatalf("%v: not the same as itself", m)
	}
	if !equal(m, before) {
		t.Fatalf("%v: changed", m)
	}
}

// codeMachines are machines of all kinds, also some that are not valid.
func codeMachines() []api.Machine {
	list := []api.Machine{{}, busy(), open()}
	for _, edit := range deviceChanges {
		m := busy()
		edit.edit(&m)
		list = append(list, m)
	}
	for _, words := range []int{0, 1, 31, 32, 33, 127, 128, 1024, 1025, 5000} {
		list = append(list, api.Machine{Mem: fill(words)}, api.Machine{Mem: make([]uint32, words)})
	}
	return list
}

// TestEncode checks P12.6, Encode and Hash, by an encoder that walks through the fields.
func TestEncode(t *testing.T) {
	for _, m := range codeMachines() {
		checkCode(t, m)
	}
}

// TestEncodeLiteral checks P12.6, Encode, byte by byte for a machine whose fields all differ.
func TestEncodeLiteral(t *testing.T) {
	m := api.Machine{
		Cpu:     api.Cpu{X: [16]uint32{1, 2, 3, 4, 5, 6, 7, 8, 9, 10, 11, 12, 13, 14, 15, 16}, Pc: 17, Csr: [8]uint32{18, 19, 20, 21, 22, 23, 24, 25}},
		Mem:     []uint32{26, 300},
		Console: api.Console{Keys: "key"},
		Timer:   api.Timer{Armed: true, Deadline: 27},
		Disk:    api.Disk{Blocks: 28, Block: 29, Frame: 30, State: 31, Cmd: -1, OpBlock: 32, OpFrame: 33, OpData: "data!"},
		Nic:     api.Nic{Frame: 34, Len: 35, Posted: true, Buffer: 36, Got: 37},
		Balloon: api.Balloon{Target: 38, Given: 39},
		Count:   128,
		Waiting: true,
	}
	want := "\x01\x02\x03\x04\x05\x06\x07\x08\x09\x0a\x0b\x0c\x0d\x0e\x0f\x10\x11\x12\x13\x14\x15\x16\x17\x18\x19" +
		"\x02\x1a\xac\x02" + "\x03key" + "\x01\x1b\x00" +
		"\x1c\x1d\x1e\x1f\xff\xff\xff\xff\xff\xff\xff\xff\xff\x01\x20\x21\x05data!" +
		"\x22\x23\x01\x24\x00\x25" + "\x26\x27" + "\x80\x01" + "\x01\x00"
	if got := Encode(m); got != want {
		t.Errorf(" got %x\nwant %x", got, want)
	}
	m.Timer.Armed, m.Timer.Fired, m.Nic.Posted, m.Nic.Received, m.Waiting, m.Halted = false, true, false, true, false, true
	want = strings.Replace(want, "\x01\x1b\x00", "\x00\x1b\x01", 1)
	want = strings.Replace(want, "\x01\x24\x00", "\x00\x24\x01", 1)
	want = strings.TrimSuffix(want, "\x01\x00") + "\x00\x01"
	if got := Encode(m); got != want {
		t.Errorf(" got %x\nwant %x", got, want)
	}
}

// TestEveryField checks P12.6: machines that differ in one field, or in one word of the memory, are not the same and have different encodings.
func TestEveryField(t *testing.T) {
	for _, m := range []api.Machine{busy(), {Mem: make([]uint32, 3)}} {
		seen := map[string]bool{Encode(m): true}
		changed := duplicate(m)
		list := scalars(reflect.ValueOf(&changed).Elem())
		if len(list) != 48+len(m.Mem) {
			t.Fatalf("%d fields", len(list))
		}
		for i, field := range list {
			kept := reflect.New(field.Type()).Elem()
			kept.Set(field)
			for _, value := range others(kept) {
				field.Set(value)
				checkCode(t, changed)
				code := Encode(changed)
				if Same(m, changed) || Same(changed, m) || seen[code] {
					t.Fatalf("field %d: %v makes no difference", i, value)
				}
				seen[code] = true
			}
			field.Set(kept)
		}
	}
}

// TestMemoryLength checks P12.6: the number of words is part of a machine, a nil list and an empty one are the same.
func TestMemoryLength(t *testing.T) {
	seen := map[string]bool{}
	for words := range 100 {
		m := busy()
		m.Mem = make([]uint32, words)
		longer := m
		longer.Mem = make([]uint32, words+1)
		if Same(m, longer) || Same(longer, m) || seen[Encode(m)] {
			t.Fatalf("%d words", words)
		}
		seen[Encode(m)] = true
	}
	none, empty := busy(), busy()
	none.Mem, empty.Mem = nil, []uint32{}
	if !Same(none, empty) || !Same(empty, none) || Encode(none) != Encode(empty) || Hash(none) != Hash(empty) {
		t.Error("a nil memory and an empty one differ")
	}
}

// TestEncodeSeparates checks P12.6 for contents that move from one string to a neighbouring field.
func TestEncodeSeparates(t *testing.T) {
	seen := map[string]int{}
	for i, m := range []api.Machine{
		{Console: api.Console{Keys: "\x01"}},
		{Console: api.Console{Keys: ""}, Timer: api.Timer{Armed: true}},
		{Console: api.Console{Keys: "\x00\x00"}},
		{Console: api.Console{Keys: "\x00"}},
		{Mem: []uint32{0}},
		{Mem: []uint32{0, 0}},
		{Mem: []uint32{1}},
		{Mem: []uint32{128}},
		{Mem: []uint32{256}},
		{Disk: api.Disk{OpData: "\x01"}},
		{Disk: api.Disk{OpData: "\x00"}},
		{Disk: api.Disk{OpFrame: 1}},
		{Nic: api.Nic{Frame: 1}},
		{Waiting: true},
		{Halted: true},
		{Count: 1},
		{Count: 128},
	} {
		if other, ok := seen[Encode(m)]; ok {
			t.Errorf("machines %d and %d have the same encoding", other, i)
		}
		seen[Encode(m)] = i
	}
}

// TestHashLiteral checks P12.6, Hash, of the zero machine, whose encoding is 49 zeros: one for each field, and one for the number of words.
func TestHashLiteral(t *testing.T) {
	want := uint64(14695981039346656037)
	for range 49 {
		want *= 1099511628211
	}
	if got := Hash(api.Machine{}); got != want || len(Encode(api.Machine{})) != 49 {
		t.Errorf("Hash %x, want %x", got, want)
	}
}
