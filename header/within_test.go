package header

import (
	"testing"

	"masthead/api"
	"masthead/wide"
)

// P7.1: a hash that is its target meets it, one less does and one more does not. No header is known that comes so near, so this looks inside.
func TestWithin(t *testing.T) {
	one := wide.Of(1)
	for _, target := range []wide.U{
		one, wide.Of(0x7fffff), wide.Of(1).Shl(64), wide.Of(0xffff).Shl(208), wide.Of(0x7fffff).Shl(232), wide.Of(0xff).Shl(248),
	} {
		less, _ := target.Sub(one)
		more, _ := target.Add(one)
		if !within(less.Bytes(), target) || !within(target.Bytes(), target) || within(more.Bytes(), target) {
			t.Errorf("next to the target %s it is %v, at it %v, behind it %v", target.Text(),
				within(less.Bytes(), target), within(target.Bytes(), target), within(more.Bytes(), target))
		}
	}
	// The last byte is the most significant one.
	if !within(api.Hash{0: 255}, wide.Of(1).Shl(248)) || within(api.Hash{31: 2}, wide.Of(1).Shl(248)) {
		t.Error("the bytes of a hash are taken in another order")
	}
}
