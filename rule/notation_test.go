package rule_test

import (
	"strings"
	"testing"

	"dugout/api"
	"dugout/rule"
)

func TestPrint(t *testing.T) {
	for _, x := range []struct {
		state rule.State
		want  string
	}{
		{rule.Start(), "1t 0 0-0 000 11 0:0 on"},
		{rule.State{Inning: 12, Half: 1, Outs: 1, Balls: 3, Strikes: 2, Bases: [3]int{2, 0, 1}, Next: [2]int{5, 3}, Score: [2]int{10, 9}}, "12b 1 3-2 201 53 10:9 on"},
		{rule.State{Inning: 9, Half: 1, Next: [2]int{5, 3}, Score: [2]int{3, 4}, Over: true}, "9b 0 0-0 000 53 3:4 over"},
		{rule.State{Inning: 30, Half: 0, Outs: 2, Bases: [3]int{0, 9}, Next: [2]int{1, 7}, Score: [2]int{9999, 9999}}, "30t 2 0-0 090 17 9999:9999 on"},
	} {
		text, e := rule.Print(x.state)
		want(t, x.want, text, x.want)
		want(t, x.want+", the error", e, api.OK)
		back, e := rule.Parse(x.want)
		want(t, x.want+", parsed", back, x.state)
		want(t, x.want+", the error of Parse", e, api.OK)
	}
}

func TestParseErrors(t *testing.T) {
	for s, err := range map[string]api.Errno{
		"":                                          api.ErrSyntax,
		" ":                                         api.ErrSyntax,
		"1t 0 0-0 000 11 0:0":                       api.ErrSyntax,
		"1t 0 0-0 000 11 0:0 on on":                 api.ErrSyntax,
		"1t 0 0-0 000 11 0:0 on ":                   api.ErrSyntax,
		" 1t 0 0-0 000 11 0:0 on":                   api.ErrSyntax,
		"1t  0 0-0 000 11 0:0 on":                   api.ErrSyntax,
		"1t\t0 0-0 000 11 0:0 on":                   api.ErrSyntax,
		"1t 0 0-0 000 11 0:0 on\n":                  api.ErrSyntax,
		"1t 0 0-0 000 11 0:0 ON":                    api.ErrSyntax,
		"1t 0 0-0 000 11 0:0 out":                   api.ErrSyntax,
		"1T 0 0-0 000 11 0:0 on":                    api.ErrSyntax,
		"1x 0 0-0 000 11 0:0 on":                    api.ErrSyntax,
		"t 0 0-0 000 11 0:0 on":                     api.ErrSyntax,
		"1 0 0-0 000 11 0:0 on":                     api.ErrSyntax,
		"1tb 0 0-0 000 11 0:0 on":                   api.ErrSyntax,
		"1tt 0 0-0 000 11 0:0 on":                   api.ErrSyntax,
		"01t 0 0-0 000 11 0:0 on":                   api.ErrSyntax,
		"+1t 0 0-0 000 11 0:0 on":                   api.ErrSyntax,
		"-1t 0 0-0 000 11 0:0 on":                   api.ErrSyntax,
		"0t 0 0-0 000 11 0:0 on":                    api.ErrRange,
		"31t 0 0-0 000 11 0:0 on":                   api.ErrRange,
		"999999999t 0 0-0 000 11 0:0 on":            api.ErrRange,
		"1000000000t 0 0-0 000 11 0:0 on":           api.ErrSyntax,
		"1t 00 0-0 000 11 0:0 on":                   api.ErrSyntax,
		"1t  0-0 000 11 0:0 on":                     api.ErrSyntax,
		"1t 3 0-0 000 11 0:0 on":                    api.ErrRange,
		"1t -1 0-0 000 11 0:0 on":                   api.ErrSyntax,
		"1t 99999999999999999999 0-0 000 11 ":       api.ErrSyntax,
		"1t 99999999999999999999 0-0 000 11 0:0 on": api.ErrSyntax,
		"1t ٣ 0-0 000 11 0:0 on":                    api.ErrSyntax,
		"1t 0 0 000 11 0:0 on":                      api.ErrSyntax,
		"1t 0 0:0 000 11 0:0 on":                    api.ErrSyntax,
		"1t 0 0-0-0 000 11 0:0 on":                  api.ErrSyntax,
		"1t 0 0--0 000 11 0:0 on":                   api.ErrSyntax,
		"1t 0 -0 000 11 0:0 on":                     api.ErrSyntax,
		"1t 0 0- 000 11 0:0 on":                     api.ErrSyntax,
		"1t 0 4-0 000 11 0:0 on":                    api.ErrRange,
		"1t 0 0-3 000 11 0:0 on":                    api.ErrRange,
		"1t 0 01-0 000 11 0:0 on":                   api.ErrSyntax,
		"1t 0 0-0 00 11 0:0 on":                     api.ErrSyntax,
		"1t 0 0-0 0000 11 0:0 on":                   api.ErrSyntax,
		"1t 0 0-0 00x 11 0:0 on":                    api.ErrSyntax,
		"1t 0 0-0 é0 11 0:0 on":                     api.ErrSyntax,
		"1t 0 0-0 0\xff0 11 0:0 on":                 api.ErrSyntax,
		"1t 0 0-0 000 1 0:0 on":                     api.ErrSyntax,
		"1t 0 0-0 000 111 0:0 on":                   api.ErrSyntax,
		"1t 0 0-0 000 1- 0:0 on":                    api.ErrSyntax,
		"1t 0 0-0 000 01 0:0 on":                    api.ErrRange,
		"1t 0 0-0 000 10 0:0 on":                    api.ErrRange,
		"1t 0 0-0 000 11 00 on":                     api.ErrSyntax,
		"1t 0 0-0 000 11 0-0 on":                    api.ErrSyntax,
		"1t 0 0-0 000 11 0:0:0 on":                  api.ErrSyntax,
		"1t 0 0-0 000 11 0:00 on":                   api.ErrSyntax,
		"1t 0 0-0 000 11 :0 on":                     api.ErrSyntax,
		"1t 0 0-0 000 11 10000:0 on":                api.ErrRange,
		"1t 0 0-0 000 11 0:10000 on":                api.ErrRange,
		"1t 0 0-0 000 11 0:1000000000 on":           api.ErrSyntax,
		"31t 0 0-0 000 11 0:0 out":                  api.ErrSyntax,
		"9b 0 0-0 000 11 0:1 on":                    api.ErrState,
		"9b 0 0-0 000 11 0:0 over":                  api.ErrState,
		"1t 0 3-0 120 31 0:0 on":                    api.ErrOrder,
		"1t 0 0-0 100 11 0:0 on":                    api.ErrOrder,
		"1t 0 0-0 300 21 0:0 on":                    api.ErrOrder,
		strings.Repeat("1", 4096):                   api.ErrSyntax,
		strings.Repeat("1", 4097):                   api.ErrLong,
	} {
		s1, e := rule.Parse(s)
		want(t, "Parse "+s, e, err)
		want(t, "the state of "+s, s1, rule.State{})
	}
}
