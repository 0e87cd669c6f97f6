package strata

import "testing"

// What a reader gives up with is a place; another panic goes on, as it is.
func TestP8OnlyAReaderIsCaught(t *testing.T) {
	if at := placeOf(wrong(7)); at != 7 {
		t.Errorf("placeOf(wrong(7)) = %d", at)
	}
	for _, given := range []any{"a fault of the program", 7} {
		func() {
			defer func() {
				if got := recover(); got != given {
					t.Errorf("%v goes on as %v", given, got)
				}
			}()
			placeOf(given)
		}()
	}
}
