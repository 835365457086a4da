package nibbles

import (
	"testing"

	"twigs/api"
	"twigs/fault"
)

func TestAllShortPathsComeBack(t *testing.T) {
	paths := []string{""}
	for from := 0; len(paths[from]) < 3; from++ {
		for v := range 16 {
			paths = append(paths, paths[from]+string([]byte{byte(v)}))
		}
	}
	codes := map[string]string{}
	for _, path := range paths {
		for _, leaf := range []bool{false, true} {
			code, err := Pack(path, leaf)
			if err != nil || len(code) != len(path)/2+1 {
				t.Fatalf("Pack(%x, %v) = %x, %v", path, leaf, code, err)
			}
			if before, ok := codes[code]; ok {
				t.Fatalf("%x is the code of %x and of %x", code, before, path)
			}
			codes[code] = path
			back, backLeaf, err := Unpack(code)
			if err != nil || back != path || backLeaf != leaf {
				t.Fatalf("Unpack(%x) = %x, %v, %v", code, back, backLeaf, err)
			}
		}
	}
}

func TestEveryFirstByte(t *testing.T) {
	for first := range 256 {
		code := string([]byte{byte(first)}) + "\xab"
		path, leaf, err := Unpack(code)
		flag, nibble := first/16, first%16
		if flag > 3 || flag%2 == 0 && nibble != 0 {
			if err != fault.Form || path != "" || leaf {
				t.Errorf("Unpack(%x) = %x, %v, %v, want %v", code, path, leaf, err, fault.Form)
			}
			continue
		}
		if again, _ := Pack(path, leaf); err != nil || again != code {
			t.Errorf("Unpack(%x) = %x, %v, %v, and Pack gives %x", code, path, leaf, err, again)
		}
	}
}

func TestByteThatIsNoNibble(t *testing.T) {
	for _, path := range []string{"\x10", "\x0f\x10", "\x01\x02\xff", "\x80\x01"} {
		if code, err := Pack(path, false); code != "" || err != fault.Nibble {
			t.Errorf("Pack(%x) = %x, %v, want %v", path, code, err, fault.Nibble)
		}
	}
}

func TestPathOfAKey(t *testing.T) {
	var key api.Key
	for i := range key {
		key[i] = byte(7 * i)
	}
	path := OfKey(key)
	if len(path) != api.KeyNibbles {
		t.Fatalf("the path of a key has %d nibbles", len(path))
	}
	for i, b := range key {
		if path[2*i] != b/16 || path[2*i+1] != b%16 {
			t.Errorf("byte %d is %x, its nibbles %x", i, b, path[2*i:2*i+2])
		}
	}
}

func TestWhatPathsHaveInCommon(t *testing.T) {
	for _, c := range []struct {
		a, b string
		want int
	}{
		{"", "", 0}, {"", "\x01", 0}, {"\x01", "", 0}, {"\x01", "\x02", 0}, {"\x01", "\x01", 1},
		{"\x01\x02", "\x01\x03", 1}, {"\x01\x02", "\x01\x02\x03", 2}, {"\x01\x02\x03", "\x01\x02", 2}, {"\x02\x01", "\x01\x01", 0},
	} {
		if got := Common(c.a, c.b); got != c.want {
			t.Errorf("Common(%x, %x) = %d, want %d", c.a, c.b, got, c.want)
		}
	}
}

func TestPairsOfAllShortPathsComeBack(t *testing.T) {
	paths := []string{""}
	for from := 0; len(paths[from]) < 3; from++ {
		for v := range 16 {
			paths = append(paths, paths[from]+string([]byte{byte(v)}))
		}
	}
	for _, path := range paths {
		packed := string(AppendPairs([]byte("x"), path))
		if len(packed) != 1+PairBytes(len(path)) || packed[0] != 'x' {
			t.Fatalf("the pairs of %x are %x", path, packed)
		}
		if back, err := Unpair(packed[1:], len(path)); back != path || err != nil {
			t.Fatalf("Unpair(%x, %d) = %x, %v", packed[1:], len(path), back, err)
		}
	}
}

func TestPairsThatAreNone(t *testing.T) {
	for _, c := range []struct {
		packed string
		count  int
	}{
		{"", 1}, {"", 2}, {"\x10", 0}, {"\x10", 3}, {"\x10\x10", 2}, {"\x10\x10", 5},
		{"\x11", 1}, {"\x18", 1}, {"\x12\x3f", 3},
	} {
		if path, err := Unpair(c.packed, c.count); path != "" || err != fault.Form {
			t.Errorf("Unpair(%x, %d) = %x, %v, want %v", c.packed, c.count, path, err, fault.Form)
		}
	}
}
