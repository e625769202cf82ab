package told_test

import (
	"testing"

	"glazier/api"
	"glazier/told"
)

func TestSends(t *testing.T) {
	l := []api.Send{{Client: 2, Out: api.Out{Kind: 0, Code: 8, N: []int64{-2, 7}}}, {Client: 7, Out: api.Out{Kind: 1, Code: 12, B: "a b", L: []int64{7}}}, {Client: 1, Out: api.Out{Kind: 2, Code: 3}}}
	if s := told.Sends(l, "7", "seven"); s != `2 fault 8 -2 seven; 7 answer 12 "a b" row seven; 1 event 3` {
		t.Error(s)
	}
}
