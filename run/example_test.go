package run

import (
	"fmt"
	"strings"
	"testing"

	"reprise/api"
)

// The chapter's examples.

const (
	chapterScript = `plan 1 1 1 2 2 1 8
produce 0 7 4014000000000000
produce 0 7 4000000000000000
produce 0 9 3ff0000000000000
round
round
query 7
round
round
round
round
round
round
round
query 7
crash 2
`
	chapterTranscript = `0 1 0 -
0 2 0 -
0 3 0 -
0 0 0 -
0 1 0 -
0 0 0 -
0 1 0 -
0 1 0 -
0 1 0 -
0 1 0 -
0 1 0 -
0 1 0 -
0 1 1 -
0 0 1 7
0 0 1 -
= 1 2
7 ?
9 ?
`
)

// TestExampleOfTheChapter: the tenth one of the whole too.
func TestExampleOfTheChapter(t *testing.T) {
	wantRun(t, chapterScript, chapterTranscript)
	wantRun(t, strings.TrimSuffix(chapterScript, "\n"), chapterTranscript)
	wantTwin(t, chapterScript)
}

func TestExampleTexts(t *testing.T) {
	wantFault(t, "", 1, api.ErrWord)
	wantFault(t, "#\nplan 0 1 1 2 2 1 8", 2, api.ErrPlan)
	wantFault(t, "plan 1 1 1 2 2 1 8\nop 13 0 0000000000000000", 1, api.ErrOps)
	wantRun(t, "plan 1 1 1 2 2 1 8", "= 0 0\n")
}

// Those of the whole; the ninth is TestAKeyTooMany.

// three: the examples' records are produced, and a tick has sent the message 0; the messages 0 to k-1 have come.
func three(k int) []said {
	list := []said{{"produce 0 7 4014000000000000", "0 1 0 -"}, {"produce 0 7 4000000000000000", "0 2 0 -"}, {"produce 0 9 3ff0000000000000", "0 3 0 -"}, {"tick", "0 1 0 -"}}
	for i := range k {
		list = append(list, delivered("0 1 0 -", i)...)
	}
	return list
}

func TestExampleABatchIsCommitted(t *testing.T) {
	list := append(three(7), said{"query 7", "0 0 0 -"}, said{"deliver 7", "0 0 1 -"}, said{"query 7", "0 0 1 7"}, said{"query 9", "0 0 1 -"})
	wantSaid(t, head, list, "= 1 2", "7 7", "9 -")
}

func TestExampleAStoreThatCrashes(t *testing.T) {
	list := append(three(5), said{"crash 2", "0 0 0 -"}, said{"deliver 5", "202 0 0 -"}, said{"query 7", "202 0 0 -"})
	wantSaid(t, head, list, "= 0 0", "7 ?", "9 ?")
	list = append(list, said{"restart 2", "0 0 0 -"}, said{"query 7", "0 0 0 -"})
	list = append(list, again(7, "tick", "0 0 0 -")...)
	list = append(list, said{"tick", "0 1 0 -"}, said{"query 7", "0 0 0 -"})
	wantSaid(t, head, list, "= 0 0", "7 -", "9 -")
	// What the first attempt did doesn't count beside what the new one does.
	list = append(list, delivered("0 1 0 -", 6, 7, 8, 9, 10, 11, 12)...)
	list = append(list, said{"deliver 13", "0 0 1 -"})
	wantSaid(t, head, list, "= 1 2", "7 7", "9 -")
}

// TestExampleABatchThatComesAgain: as something else, the third one; then the fourth one, of whom comes late.
func TestExampleABatchThatComesAgain(t *testing.T) {
	list := []said{
		{"produce 0 2 4024000000000000", "0 1 0 -"}, {"produce 0 1 4034000000000000", "0 2 0 -"}, {"produce 1 4 403e000000000000", "0 1 0 -"}, {"produce 1 3 4044000000000000", "0 2 0 -"},
		// Partition 1 is off. The attempt 1 is node 2's; 3 and 4 are its MsgBegin, 6 its MsgApply to node 3, of which 7 is a copy.
		{"switch 1 0", "0 0 0 -"}, {"tick", "0 1 0 -"}, {"deliver 0", "0 1 0 -"}, {"deliver 1", "0 1 0 -"}, {"deliver 2", "0 2 0 -"}, {"deliver 3", "0 1 0 -"}, {"deliver 5", "0 1 0 -"},
		{"copy 6", "0 7 0 -"}, {"deliver 6", "0 1 0 -"}, {"crash 2", "0 0 0 -"}, {"switch 0 0", "0 0 0 -"}, {"switch 1 1", "0 0 0 -"}, {"drop 4", "0 0 0 -"}, {"drop 8", "0 0 0 -"},
	}
	list = append(list, again(7, "tick", "0 0 0 -")...)
	list = append(list, said{"tick", "0 1 0 -"})
	list = append(list, delivered("0 1 0 -", 9, 10)...)
	list = append(list, delivered("0 2 0 -", 11)...)
	list = append(list, delivered("0 1 0 -", 12, 13, 14, 15, 16, 17)...)
	list = append(list, said{"deliver 18", "0 0 0 -"}, said{"deliver 19", "0 1 0 -"}, said{"deliver 20", "0 0 1 -"})
	values := []said{{"query 1", "0 0 1 -"}, {"query 2", "0 0 1 -"}, {"query 3", "0 0 1 40"}, {"query 4", "0 0 1 30"}}
	list = append(list, values...)
	wantSaid(t, "plan 2 2 2 2 2 1 8\n", list, "= 1 0 2", "1 -", "2 -", "3 40", "4 30")
	// Node 3's power would go at a write.
	list = append(list, said{"cut 3 0", "0 0 1 -"}, said{"deliver 7", "0 1 1 -"}, said{"restart 3", "201 0 1 -"})
	list = append(list, values...)
	wantSaid(t, "plan 2 2 2 2 2 1 8\n", list, "= 1 0 2", "1 -", "2 -", "3 40", "4 30")
}

// TestExampleAMessageThatComesTwice: the second time nothing is written, or the store's power would go.
func TestExampleAMessageThatComesTwice(t *testing.T) {
	list := append(three(5), said{"copy 5", "0 6 0 -"}, said{"deliver 5", "0 1 0 -"}, said{"cut 2 0", "0 0 0 -"}, said{"deliver 6", "0 1 0 -"}, said{"restart 2", "201 0 0 -"})
	list = append(list, said{"deliver 7", "0 1 0 -"}, said{"deliver 8", "0 1 0 -"}, said{"deliver 9", "0 0 1 -"}, said{"deliver 10", "0 0 1 -"})
	wantSaid(t, head, list, "= 1 2", "7 7", "9 -")
}

// TestExampleTheNoteThatCommits: the new attempt's number is 2, since it is node 3's, which doesn't run.
func TestExampleTheNoteThatCommits(t *testing.T) {
	list := append(three(7), said{"cut 0 0", "0 0 0 -"}, said{"deliver 7", "80 0 0 -"}, said{"query 7", "0 0 0 -"}, said{"restart 0", "0 0 0 -"}, said{"query 7", "0 0 0 -"},
		said{"crash 3", "0 0 0 -"}, said{"tick", "0 1 0 -"}, said{"copy 8", "0 9 0 -"}, said{"deliver 8", "202 0 0 -"}, said{"restart 3", "0 0 0 -"})
	wantSaid(t, "plan 1 1 4 2 2 1 8\n", list, "= 0 0", "7 -", "9 -")
	list = append(list, delivered("0 1 0 -", 9, 10, 11, 12, 13, 14, 15)...)
	list = append(list, said{"deliver 16", "0 0 1 -"})
	wantSaid(t, "plan 1 1 4 2 2 1 8\n", list, "= 1 2", "7 7", "9 -")
}

func TestExampleTheGreatestOne(t *testing.T) {
	for _, c := range []struct {
		vals []string
		want string
	}{
		{[]string{"8000000000000000", "0000000000000000", "fff0000000000000", "fff0000000000123"}, "7ff8000000000001"},
		{[]string{"8000000000000000", "0000000000000000", "fff0000000000000"}, "0000000000000000"},
		{[]string{"0000000000000000", "fff0000000000000", "8000000000000000"}, "0000000000000000"},
		{[]string{"fff0000000000000", "8000000000000000"}, "8000000000000000"},
	} {
		text := "plan 1 1 1 4 1 1 8\n"
		for _, val := range c.vals {
			text += "produce 0 7 " + val + "\n"
		}
		got, line, e := Run(text + strings.Repeat("round\n", 60) + "query 7")
		n := len(c.vals)
		want := fmt.Sprintf("0 0 %d %s\n= %d %d\n7 %s\n", n, c.want, n, n, c.want)
		if line != 0 || e != api.OK || !strings.HasSuffix(got, want) {
			t.Errorf("of %v told is %q, %d, %d, not at its end %q", c.vals, brief(got), line, e, want)
		}
	}
}

func TestExampleARecordIsTrapped(t *testing.T) {
	list := []said{{"produce 0 1 8000000000000000", "0 1 0 -"}, {"produce 0 1 4000000000000000", "0 2 0 -"}, {"round", "0 0 0 -"}}
	list = append(list, again(7, "round", "0 1 0 -")...)
	list = append(list, said{"round", "0 1 1 -"}, said{"query 1", "0 0 1 0"})
	wantSaid(t, head+"op 8 0 0000000000000000\nop 9 0 0000000000000000\n", list, "= 1 2", "1 0")
	// With a count the one that is trapped doesn't count; without the pipeline it does.
	wantSaid(t, "plan 1 1 1 1 2 1 8\nop 8 0 0000000000000000\nop 9 0 0000000000000000\n", append(list[:len(list)-1:len(list)-1], said{"query 1", "0 0 1 1"}), "= 1 2", "1 1")
	wantSaid(t, "plan 1 1 1 1 2 1 8\n", append(list[:len(list)-1:len(list)-1], said{"query 1", "0 0 1 2"}), "= 1 2", "1 2")
}
