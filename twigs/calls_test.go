package twigs_test

import (
	"strings"
	"testing"

	"twigs/api"
	"twigs/twigs"
)

// checkCode asks every call that reads a text; that none of them panics is half of what is tested.
func checkCode(t *testing.T, code string) {
	t.Helper()
	x, f := twigs.Decode(code)
	if f.Err != api.OK && !zeroItem(x) || f.Err == api.OK && f != (api.Fault{}) {
		t.Errorf("Decode(%.40x) = %.60v, %+v", code, x, f)
	}
	if f.Proof != 0 || f.Node != 0 || f.At < 0 || f.At > len(code) {
		t.Errorf("Decode(%.40x): %+v", code, f)
	}
	a, f := twigs.DecodeAccount(code)
	if f.Err != api.OK && a != (api.Account{}) || f.Err == api.OK && f != (api.Fault{}) {
		t.Errorf("DecodeAccount(%.40x) = %+v, %+v", code, a, f)
	}
	path, leaf, err := twigs.Unpack(code)
	if err != api.OK && (path != "" || leaf) {
		t.Errorf("Unpack(%.40x) = %x, %v, %d", code, path, leaf, err)
	}
	packed, err := twigs.Pack(code, true)
	if err != api.OK && packed != "" {
		t.Errorf("Pack(%.40x) = %x, %d", code, packed, err)
	}
	if written, err := twigs.Encode(text(code)); err != api.OK && written != "" {
		t.Errorf("Encode(%.40x) = %.40x, %d", code, written, err)
	}
	h := twigs.NewHasher()
	h.Write(code)
	if h.Sum() != twigs.Digest(code) {
		t.Errorf("Digest(%.40x) and Sum are different", code)
	}
}

func TestP1AllTexts(t *testing.T) {
	for _, code := range shortTexts(edges, 3) {
		checkCode(t, code)
	}
	for v := range 256 {
		one := string([]byte{byte(v)})
		for _, n := range []int{1, 2, 9, 55, 56, 57, 255, 256, 257, api.MaxItem - 1, api.MaxItem, api.MaxItem + 1, 5000} {
			checkCode(t, strings.Repeat(one, n))
			checkCode(t, one+xs(n-1))
		}
	}
}

func TestP2AnswersHangOnArgumentsAlone(t *testing.T) {
	for range 2 {
		if twigs.Digest("abc") != twigs.Digest("abc") {
			t.Error("one text has two digests")
		}
		for _, code := range shortTexts(edges, 2) {
			x, f := twigs.Decode(code)
			twigs.Decode("\xc2\x80\x05")
			y, g := twigs.Decode(code)
			if f != g || !sameItem(x, y) {
				t.Errorf("Decode(%x) has two answers", code)
			}
		}
	}
}
