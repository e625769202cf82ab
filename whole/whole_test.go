package whole

import (
	"strings"
	"testing"

	"glazier/api"
	"glazier/session"
)

// plays holds what a script says against what is wanted; lines that are ok, joined or calm are left out.
func plays(t *testing.T, what, text, wanted string) {
	t.Helper()
	l, n, e := session.Run(text)
	if e != api.OK {
		t.Fatalf("%s: line %d: %d", what, n, e)
	}
	var told []string
	for _, line := range l {
		if line != "ok" && !strings.HasPrefix(line, "joined") && !strings.HasPrefix(line, "calm") {
			told = append(told, line)
		}
	}
	if got := strings.Join(told, "\n"); got != wanted {
		t.Errorf("%s:\n%s\nwanted\n%s", what, got, wanted)
	}
}

// The document's examples of the whole, one by one; 1048577 is a window a of the client 1, 2097153 a window of the client 2.

func TestWindow(t *testing.T) {
	plays(t, "1: six places are its ground", `screen 4 4
join plain 0 0
ask 1 1 1048577 1 1 1 3 2 9 0 0
ask 1 3 1048577
calm
show
audit`, "01010101\n01090909\n01090909\n01010101")
}

func TestCovered(t *testing.T) {
	for backing, wanted := range []string{"05090909\nevent 10 7 1048577 1 0 3 1 0", "05050505\nevent 16 9 1048577 1048577\nevent 14 9 1048577 1048577"} {
		script := `screen 4 1
join plain 0 0
join plain 1 0
ask 1 1 1048577 1 0 0 4 1 9 BACKING 0
ask 1 3 1048577
ask 1 19 1048578
ask 1 20 1048578 4 0 0 5 0 0
row 1 30 2 1048577 1048578 0 0 4 1
ask 1 7 1048577 32 0 0 0 0 0 256
calm
ask 2 1 2097153 1 1 0 3 1 8 0 0
ask 2 3 2097153
calm
ask 2 2 2097153
ask 1 58
calm
show
EXTRA
read 1
audit`
		script = strings.Replace(script, "BACKING", string(rune('0'+backing)), 1)
		extra := "turn 1 1"
		if backing == 1 {
			// Nothing was told of what was uncovered: the first event is that of its end.
			extra = "ask 1 7 1048577 32 0 0 0 0 0 512\nask 1 2 1048577\ncalm"
		}
		plays(t, "2: covered, and uncovered", strings.Replace(script, "EXTRA", extra, 1), wanted)
	}
}

func TestCopyOntoItself(t *testing.T) {
	plays(t, "3: one place to the right", `screen 4 1
join plain 0 0
ask 1 1 1048577 1 0 0 4 1 9 0 0
ask 1 3 1048577
ask 1 19 1048578
say 1 34 03010203`+`04 1048577 1048578 0 0 4 1
calm
show
ask 1 27 1048577 1048577 1048578 0 0 1 0 3 1 0
calm
show
audit`, "01020304\n01010203")
}

func TestSharedEdge(t *testing.T) {
	plays(t, "4: no place twice", `screen 6 4
join plain 0 0
ask 1 1 1048577 1 0 0 6 4 0 0 0
ask 1 3 1048577
ask 1 19 1048578
ask 1 20 1048578 5 6 0 7 0 0
row 1 31 3 1048577 1048578 0 0 0 5 0 2 4
row 1 31 3 1048577 1048578 0 5 0 5 4 2 4
calm
show
audit`, "070707070700\n000707070700\n000707070700\n000007070700")
}

func TestGrabbedKey(t *testing.T) {
	plays(t, "5: to the grab's client alone", `screen 4 4
join plain 0 0
join plain 0 0
ask 1 1 1048577 1 0 0 4 4 9 0 0
ask 1 3 1048577
ask 2 7 1 32 0 0 0 0 0 1
calm
ask 1 43 1048577 0 0 0 0
calm
input 1 65 0 0 5
calm
read 1
read 2
audit`, "answer 43 3 0\nevent 1 3 1048577 0 65 0 2 2 2 2 5")
}

func TestStep(t *testing.T) {
	plays(t, "6: the next press, and waits again", `screen 4 4
join plain 0 0
ask 1 1 1048577 1 0 0 4 4 9 0 0
ask 1 3 1048577
ask 1 39 1048577 0 20 1 0 0
calm
read 1
input 5 0 1 1 5
input 3 1 0 0 6
input 5 0 3 3 7
calm
read 1
ask 1 47 1 0
calm
read 1
ask 1 47 0 0
calm
read 1
audit`, "answer 39 3 0\nevent 5 4 1048577 0 0 0 1 1 1 1 5\nevent 3 4 1048577 0 1 0 1 1 1 1 6\nevent 5 5 1048577 0 0 256 3 3 3 3 7")
}

func TestRefusal(t *testing.T) {
	plays(t, "7: a refusal", `screen 4 4
join plain 0 0
join plain 0 0
ask 1 1 1048577 1 0 0 1 1 9 0 0
ask 1 50 1048577 1 0
ask 2 1 2097153 1 0 0 1 1 9 0 0
calm
ask 2 52 2097153 1 4 9 0
calm
read 1
hang 1
calm
read 2
audit`, "event 23 2 1048577 2097153 1 4 9 0\nevent 24 2 2097153 1 4 0 0")
}

func TestClients(t *testing.T) {
	plays(t, "the sizes of applications, and where the pointer is", `screen 70 40
join editor 0 0
join term 1 1
join plain 0 0
calm
input 5 0 2 1 5
ask 3 9 1048577
ask 3 9 2097153
ask 3 48 1
calm
read 3
audit`, "answer 9 1 1 0 0 60 36 1 1\nanswer 9 2 1 0 0 48 30 1 1\nanswer 48 3 2097153 2 1 2 1 0")
}

func TestLength(t *testing.T) {
	// draw-points of one point has five words; told as four, its last word is a no-op's head. Behind it stands get-focus.
	plays(t, "9: read as it stands", `screen 4 4
join raw 0 0
bytes 1 6c010000`+`1c000400010010000200100002000000`+`3a000100`+`26000100
turn 1 65536
read 1
audit`, "0010010004000000000000001c000000"+"01260300040000000100000001000000")
}
